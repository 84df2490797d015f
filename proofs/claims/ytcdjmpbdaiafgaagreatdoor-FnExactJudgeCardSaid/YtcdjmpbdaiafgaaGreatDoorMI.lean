import Derived.Test.YtcdjmpbdaiafgaaGreatDoorMH
namespace Go.Proofs.YtcdjmpbdaiafgaaGreatDoor
open Go.RowKit Go.Sort Go.Maps Go.Shelf
set_option linter.unusedVariables false
set_option maxRecDepth 100000

set_option maxHeartbeats 8000000 in
theorem implResolve_any (B0 : Nat) (v0 v1 v2 v3 : Value) (N : Nt) (w : World) (h0 : HNet B0 w v0 v1 v2 v3 N) (hc : HRelsC w v2 N.rels) (hs : wsum N.ways N.ways.length ≤ 1048576) (ht : TabW w) :
    Calls Tryz.prog 8 #[.agg #[v0, v1, v2, v3, .int .i64 N.uturn]] w fun e w' => (∃ vr vd, e = .returned (.agg #[vr, vd]) ∧ OwnX w.heap.size w' vr (resOf N).rules ∧ OwnD w.heap.size w' vd (resOf N).drops) ∧ Nx w w' := by
  have HS : Hid (wsum N.ways N.ways.length ≤ 1048576) := hs
  have HI : Hid (HNet B0 w v0 v1 v2 v3 N) := h0
  have HC : Hid (HRelsC w v2 N.rels) := hc
  have HT : Hid (TabW w) := ht
  obtain ⟨a0, q0, rfl, jm, jk⟩ := h0.1
  clear jm jk
  obtain ⟨a1, q1, rfl, jm, jk⟩ := h0.2.1
  clear jm jk
  obtain ⟨a2, q2, rfl, jm, jk⟩ := h0.2.2.1
  clear jm jk
  obtain ⟨a3, q3, rfl, jm, jk⟩ := h0.2.2.2
  clear jm jk hs h0 hc ht
  generalize N.nodes.length = l0 at *
  generalize N.rels.length = l2 at *
  generalize N.turns.length = l3 at *
  go_enter Tryz.func8, Tryz.ntmps8
  go_wp2_with fail
  generalize hWA : (w.alloc (.cells #[.slice a0 l0 q0, .slice a1 N.ways.length q1, .slice a2 l2 q2, .slice a3 l3 q3, .int .i64 N.uturn] 38)).alloc (.cells #[.slice none 0 0, .slice none 0 0] 32) = wA
  have HXA : Hid (Nx w wA) := by unfold Hid; rw [← hWA]; exact (box1 _ _).trans (box1 _ _)
  have BG : Hid (BT wA w.heap.size #[.slice a0 l0 q0, .slice a1 N.ways.length q1, .slice a2 l2 q2, .slice a3 l3 q3, .int .i64 N.uturn] 38) := by unfold Hid; rw [← hWA]; exact (BT.new w _ _ _ rfl).alloc _
  have BZ : Hid (BT wA (w.heap.size + 1) #[.slice none 0 0, .slice none 0 0] 32) := by unfold Hid; rw [← hWA]; exact BT.new _ _ _ _ (by rw [size_alloc'])
  have HSA : Hid (wA.heap.size = w.heap.size + 2) := by unfold Hid; rw [← hWA, size_alloc', size_alloc']
  clear hWA
  refine (implValid_any B0 _ _ _ _ N _ (by exact HI.out.next HXA.out) HS.out).mono ?_
  rintro e w1 ⟨rfl, hx⟩
  have HXA1 : Hid (Nx wA w1) := hx
  have HX1 : Hid (Nx w w1) := HXA.out.trans hx
  have BG1 : Hid (BT w1 w.heap.size #[.slice a0 l0 q0, .slice a1 N.ways.length q1, .slice a2 l2 q2, .slice a3 l3 q3, .int .i64 N.uturn] 38) := BG.out.next hx
  have BZ1 : Hid (BT w1 (w.heap.size + 1) #[.slice none 0 0, .slice none 0 0] 32) := BZ.out.next hx
  clear hx
  cases hv : implValid N
  case false =>
    have HF : Hid (resOf N = ⟨[], []⟩) := by unfold Hid resOf; rw [hv]; rfl
    clear hv
    have y0 := BZ1.out.blk.cell (i := 0) rfl
    have y1 := BZ1.out.blk.cell (i := 1) rfl
    have z0 := BZ1.out.blk.frozen 0
    have z1 := BZ1.out.blk.frozen 1
    have BR' := (BZ1.out.set 0 (.slice none 0 0)).set 1 (.slice none 0 0)
    have p0 : _ = some (Value.slice none 0 0) := BR'.blk.cell (i := 0) rfl
    have p1 : _ = some (Value.slice none 0 0) := BR'.blk.cell (i := 1) rfl
    go_wp2
    refine bodyPost_ret (v := .agg #[.slice none 0 0, .slice none 0 0]) (by simp [results, Tryz.results8, go_sem, p0, p1]) rfl ?_
    rw [HF.out]
    exact ⟨⟨_, _, rfl, ⟨[], rfl, ⟨rfl, .inl ⟨rfl, rfl⟩⟩, fun i hi => absurd hi (Nat.not_lt_zero _), fun i j g _ hj => absurd hj (Nat.not_lt_zero _)⟩, ⟨rfl, .inl ⟨rfl, rfl⟩⟩⟩, Below.setCell (Below.setCell HX1.out (Nat.le_succ _) _) (Nat.le_succ _) _⟩
  have HF : Hid (resOf N = resTo (chP N) N.rels N.rels.length) := res_same hv
  have HV : Hid (implValid N = true) := hv
  clear hv
  have k0 := BG1.out.blk.cell (i := 0) rfl
  have k1 := BG1.out.blk.cell (i := 1) rfl
  have k2 := BG1.out.blk.cell (i := 2) rfl
  have k3 := BG1.out.blk.cell (i := 3) rfl
  have k4 := BG1.out.blk.cell (i := 4) rfl
  go_wp2_with fail
  refine (linkRoad_any B0 _ _ _ _ N _ (by exact HI.out.next HX1.out) HS.out HV.out).mono ?_
  rintro e w2 ⟨⟨L, rfl, e0, e1, e2, e3, hLR⟩, hx2⟩
  have HLR : Hid (LR w1.heap.size N (E1 N) N.ways.length (E1 N).length (E1 N).length (E1 N).length N.ways.length w2 L) := hLR
  have HX2 : Hid (Nx w w2) := HX1.out.trans hx2
  have HX12 : Hid (Nx w1 w2) := hx2
  have HE : Hid (L.v0 = .slice a0 l0 q0 ∧ L.v2 = .slice a2 l2 q2) := ⟨e0, e2⟩
  clear hLR hx2 e0 e1 e2 e3 k0 k1 k2 k3 k4
  go_wp2_with fail
  refine (resolve_any w1.heap.size N L w2 HV.out HLR.out (by rw [HE.out.1]; exact (HI.out.1.next HX2.out).base (Nat.zero_le _)) (by rw [HE.out.2]; exact HC.out.next HX2.out) (HT.out.next HX2.out)).mono ?_
  rintro e w3 ⟨⟨vr, vd, rfl, hr, hd⟩, hx3⟩
  have HR3 : Hid (OwnX w2.heap.size w3 vr (resTo (chP N) N.rels N.rels.length).rules) := hr
  have HD3 : Hid (OwnD w2.heap.size w3 vd (resTo (chP N) N.rels N.rels.length).drops) := hd
  obtain ⟨ar, cr, rfl⟩ := hr.slice
  obtain ⟨ad, cd, rfl⟩ := row_slice hd
  generalize (resTo (chP N) N.rels N.rels.length).rules.length = nr at *
  generalize (resTo (chP N) N.rels N.rels.length).drops.length = nd at *
  have HX3 : Hid (Nx w w3) := HX2.out.trans hx3
  have BZ3 : Hid (BT w3 (w.heap.size + 1) #[.slice none 0 0, .slice none 0 0] 32) := (BZ1.out.next HX12.out).next hx3
  clear hr hd hx3
  have y0 := BZ3.out.blk.cell (i := 0) rfl
  have y1 := BZ3.out.blk.cell (i := 1) rfl
  have z0 := BZ3.out.blk.frozen 0
  have z1 := BZ3.out.blk.frozen 1
  have BR' := (BZ3.out.set 0 (.slice ar nr cr)).set 1 (.slice ad nd cd)
  have p0 : _ = some (Value.slice ar nr cr) := BR'.blk.cell (i := 0) rfl
  have p1 : _ = some (Value.slice ad nd cd) := BR'.blk.cell (i := 1) rfl
  clear BR'
  go_wp2
  refine bodyPost_ret (v := .agg #[.slice ar nr cr, .slice ad nd cd]) (by simp [results, Tryz.results8, go_sem, p0, p1]) rfl ?_
  have h1 : w.heap.size + 1 < w2.heap.size := by have := HSA.out; have := HXA1.out.size; have := HX12.out.size; omega
  have c1 : Chg (fun x => x = w.heap.size + 1) w3 ((w3.setCell ⟨w.heap.size + 1, 0, none⟩ (.slice ar nr cr)).setCell ⟨w.heap.size + 1, 1, none⟩ (.slice ad nd cd)) := (Chg.set (S := fun x => x = w.heap.size + 1) (w.heap.size + 1) 0 _ rfl).trans (Chg.set (S := fun x => x = w.heap.size + 1) (w.heap.size + 1) 1 _ rfl)
  rw [HF.out]
  exact ⟨⟨_, _, rfl, (HR3.out.low c1 (fun b e => by omega)).base (by omega), row_base (row_low' HD3.out c1 (fun b e => by omega)) (by omega)⟩, Below.setCell (Below.setCell HX3.out (Nat.le_succ _) _) (Nat.le_succ _) _⟩
end Go.Proofs.YtcdjmpbdaiafgaaGreatDoor

namespace Go.Proofs.YtcdjmpbdaiafgaaGreatDoor
open Go.RowKit
set_option linter.unusedVariables false
set_option maxRecDepth 100000

def HIc (B : Nat) (w : World) (v : Value) (zs : List Int) : Prop := HInts B w v zs ∧ CapOk v
theorem HIc.keep {B : Nat} {w w' : World} {v : Value} {zs : List Int} (h : HIc B w v zs) (k : Keeps B w w') : HIc B w' v zs := ⟨h.1.keep k, h.2⟩
theorem HIc.next {B : Nat} {w w' : World} {v : Value} {zs : List Int} (h : HIc B w v zs) (k : Nx w w') : HIc B w' v zs := ⟨h.1.next k, h.2⟩
theorem HIc.base {B B' : Nat} {w : World} {v : Value} {zs : List Int} (h : HIc B w v zs) (hB : B' ≤ B) : HIc B' w v zs := ⟨h.1.base hB, h.2⟩
theorem HIc.store {B : Nat} {w : World} {v : Value} {zs : List Int} (h : HIc B w v zs) {g o : Nat} (hg : g < B) (u : Value) : HIc B (w.setCell ⟨g, o, none⟩ u) v zs := ⟨h.1.store hg u, h.2⟩
def HRelX (B : Nat) (w : World) (b o : Nat) (x : Rl) : Prop :=
  ∃ vw, w.cell? ⟨b, o, none⟩ = some (.int .i64 x.id) ∧ w.cell? ⟨b, o + 1, none⟩ = some (.bool x.only) ∧ w.cell? ⟨b, o + 2, none⟩ = some (.int .i64 x.frm) ∧ w.cell? ⟨b, o + 3, none⟩ = some (.int .i64 x.to) ∧
    w.cell? ⟨b, o + 4, none⟩ = some (.bool x.via) ∧ w.cell? ⟨b, o + 5, none⟩ = some (.int .i64 x.node) ∧ w.cell? ⟨b, o + 6, none⟩ = some vw ∧ HIc B w vw x.ways
def HRelsX (B : Nat) (w : World) (v : Value) (xs : List Rl) : Prop :=
  HSlice B w v xs.length fun b off i => HRelX B w b (off + i * 7) (rat xs i)
theorem HRelsX.keep {B : Nat} {w w' : World} {v : Value} {xs : List Rl} (h : HRelsX B w v xs) (k : Keeps B w w') : HRelsX B w' v xs :=
  HSlice.mono h (Nat.le_refl _) k.1 fun b off hB hs i hi hc => by
    obtain ⟨vw, h0, h1, h2, h3, h4, h5, h6, h7⟩ := hc
    exact ⟨vw, (k.2 b hB hs _).trans h0, (k.2 b hB hs _).trans h1, (k.2 b hB hs _).trans h2, (k.2 b hB hs _).trans h3, (k.2 b hB hs _).trans h4, (k.2 b hB hs _).trans h5, (k.2 b hB hs _).trans h6, h7.keep k⟩
theorem HRelsX.base {B B' : Nat} {w : World} {v : Value} {xs : List Rl} (h : HRelsX B w v xs) (hB : B' ≤ B) : HRelsX B' w v xs :=
  HSlice.mono h hB (Nat.le_refl _) fun b off _ _ i hi hc => by
    obtain ⟨vw, h0, h1, h2, h3, h4, h5, h6, h7⟩ := hc
    exact ⟨vw, h0, h1, h2, h3, h4, h5, h6, h7.base hB⟩
theorem HRelsX.rels {B : Nat} {w : World} {v : Value} {xs : List Rl} (h : HRelsX B w v xs) : HRels B w v xs :=
  HSlice.mono h (Nat.le_refl _) (Nat.le_refl _) fun b off _ _ i hi hc => by
    obtain ⟨vw, h0, h1, h2, h3, h4, h5, h6, h7⟩ := hc
    exact ⟨vw, h0, h1, h2, h3, h4, h5, h6, h7.1⟩
theorem HRelsX.caps {B : Nat} {w : World} {v : Value} {xs : List Rl} (h : HRelsX B w v xs) : HRelsC w v xs :=
  HSlice.mono h (Nat.zero_le _) (Nat.le_refl _) fun b off _ _ i hi hc => by
    obtain ⟨vw, h0, h1, h2, h3, h4, h5, h6, h7⟩ := hc
    exact ⟨vw, h0, h1, h2, h3, h4, h5, h6, h7.1.base (Nat.zero_le _), h7.2⟩
def HNetC (B : Nat) (w : World) (v0 v1 v2 v3 : Value) (N : Nt) : Prop :=
  HInts B w v0 N.nodes ∧ HWays B w v1 N.ways ∧ HRelsX B w v2 N.rels ∧ HTurns B w v3 N.turns
theorem HNetC.net {B : Nat} {w : World} {v0 v1 v2 v3 : Value} {N : Nt} (h : HNetC B w v0 v1 v2 v3 N) : HNet B w v0 v1 v2 v3 N := ⟨h.1, h.2.1, h.2.2.1.rels, h.2.2.2⟩
theorem HNetC.caps {B : Nat} {w : World} {v0 v1 v2 v3 : Value} {N : Nt} (h : HNetC B w v0 v1 v2 v3 N) : HRelsC w v2 N.rels := h.2.2.1.caps

set_option maxHeartbeats 400000 in
theorem toInts_c (B : Nat) (v : Value) (zs : List Int) (w : World) (h0 : HInts B w v zs) (hs : zs.length ≤ 1048576) :
    Calls Tryz.prog 15 #[v] w fun e w' => (∃ a' n' c', e = .returned (.slice a' n' c') ∧ HIc w.heap.size w' (.slice a' n' c') zs) ∧ Nu w w' := by
  obtain ⟨a, cap, rfl, hn, hk⟩ := h0
  generalize hz : zs.length = n at *
  have HZ : Hid (zs.length = n) := hz
  have HM : Hid (n ≤ maxLen) := hn
  clear hz hn
  have hmk := run_make_row' (P := Tryz.prog) 22 2 (.int .i64 0) 8 Tryz.underlying22 info2 rfl .i64 .i64 n (by omega) (by omega)
  go_enter Tryz.func15, Tryz.ntmps15
  go_wp2
  go_loopw [4] (fun i wr => ∃ k : Nat, k ≤ n ∧ i = .int .i64 k ∧ Hid (RowTo wr w.heap.size n k zs) ∧ Hid (Nu w wr)) (fun i _ => n - (intOf i).toNat)
  case atStart => exact ⟨0, Nat.zero_le _, rfl, ⟨_, World.rowIs_made _ _ _ _, fun i hi => absurd hi (Nat.not_lt_zero _)⟩, ubox1 _ _ _⟩
  case round =>
    obtain ⟨k, hkn, rfl, HR, HN⟩ := hrel
    clear hmk
    by_cases hlt : k < n
    · obtain ⟨b, off, rfl, hB, hb, hc⟩ := hk (by omega)
      have c0 := cell_next HN.out.nx hb (hc k hlt)
      have hlt' : (k : Int) < n := by omega
      obtain ⟨f, hf, hf'⟩ := HR.out
      have r0 := hf.cell hlt
      have r1 := hf.frozen k
      clear hc hk hf hf'
      go_wp2
      go_roundw
      case rel => exact ⟨k + 1, by omega, by go_num, HR.out.set, Nu.setCell HN.out (Nat.le_refl _) _⟩
      case measure => simp [intOf]; omega
    · go_wp2
      go_ret
      have e : k = n := by omega
      subst e
      exact ⟨⟨_, _, _, rfl, ⟨HR.out.held HZ.out HM.out, _, _, _, rfl, Nat.le_refl _⟩⟩, HN.out⟩
set_option maxHeartbeats 400000 in
theorem toRel_c (B : Nat) (x : Rl) (p : Value) (w : World) (h0 : HInts B w p x.ways) (hs0 : x.ways.length ≤ 1048576) :
    Calls Tryz.prog 60 #[.agg #[.int .i64 x.id, .bool x.only, .int .i64 x.frm, .int .i64 x.to, .bool x.via, .int .i64 x.node, p]] w fun e w' => (∃ a m c, e = .returned (.agg #[.int .i64 x.id, .bool x.only, .int .i64 x.frm, .int .i64 x.to, .bool x.via, .int .i64 x.node, .slice a m c]) ∧ HIc w.heap.size w' (.slice a m c) x.ways) ∧ Nu w w' := by
  go_enter Tryz.func60, Tryz.ntmps60
  go_wp2_with fail
  refine (toInts_c B _ x.ways _ (h0.next (((box2 _ _ _).alloc _))) hs0).mono ?_
  rintro e w1 ⟨⟨a1, n1, c1, rfl, g1⟩, hu⟩
  have hx := hu.nx
  have HX : Hid (Nu w w1) := ((ubox2 _ _ _ _ _).alloc _ _).trans hu
  have BB2 : Blk w1 (w.heap.size + 1) #[.int .i64 0, .bool false, .int .i64 0, .int .i64 0, .bool false, .int .i64 0, .slice none 0 0] := ((Blk.new _ _ 93 _ (by simp)).alloc _).next hx
  have BC2 : Blk w1 (w.heap.size + 1 + 1) #[.int .i64 x.id, .bool x.only, .int .i64 x.frm, .int .i64 x.to, .bool x.via, .int .i64 x.node, .slice none 0 0] := (Blk.new _ _ 93 _ (by simp)).next hx
  have G1 : Hid (HIc (w.heap.size + 3) w1 (.slice a1 n1 c1) x.ways) := g1.base (by simp)
  clear hx hu g1
  have k0 := BC2.cell (i := 0) rfl
  have k1 := BC2.cell (i := 1) rfl
  have k2 := BC2.cell (i := 2) rfl
  have k3 := BC2.cell (i := 3) rfl
  have k4 := BC2.cell (i := 4) rfl
  have k5 := BC2.cell (i := 5) rfl
  have k6 := BC2.cell (i := 6) rfl
  have kf := BC2.frozen 6
  have j0 := BB2.cell (i := 0) rfl
  have j1 := BB2.cell (i := 1) rfl
  have j2 := BB2.cell (i := 2) rfl
  have j3 := BB2.cell (i := 3) rfl
  have j4 := BB2.cell (i := 4) rfl
  have j5 := BB2.cell (i := 5) rfl
  have j6 := BB2.cell (i := 6) rfl
  have f0 := BB2.frozen 0
  have f1 := BB2.frozen 1
  have f2 := BB2.frozen 2
  have f3 := BB2.frozen 3
  have f4 := BB2.frozen 4
  have f5 := BB2.frozen 5
  have f6 := BB2.frozen 6
  go_wp2
  refine bodyPost_ret (v := .agg #[.int .i64 x.id, .bool x.only, .int .i64 x.frm, .int .i64 x.to, .bool x.via, .int .i64 x.node, .slice a1 n1 c1]) (by simp [results, Tryz.results60, go_sem, j0, j1, j2, j3, j4, j5, j6]) rfl ⟨⟨a1, n1, c1, rfl, ?_⟩, ?_⟩
  · exact ((((((((G1.out.store (by omega) _).store (by omega) _).store (by omega) _).store (by omega) _).store (by omega) _).store (by omega) _).store (by omega) _).store (by omega) _).base (by omega)
  · exact Nu.setCell (Nu.setCell (Nu.setCell (Nu.setCell (Nu.setCell (Nu.setCell (Nu.setCell (Nu.setCell HX.out (by simp; omega) _) (by simp) _) (by simp) _) (by simp) _) (by simp) _) (by simp) _) (by simp) _) (by simp) _
/-- the first k structs of the new row hold the list's -/
def toRelsRowC (w : World) (g n k : Nat) (zs : List Rl) : Prop := ∃ cs : Array Value, Blk w g cs ∧ cs.size = n * 7 ∧ ∀ i, i < k → ∃ p : Value, cs[i * 7]? = some (.int .i64 (rat zs i).id) ∧ cs[i * 7 + 1]? = some (.bool (rat zs i).only) ∧ cs[i * 7 + 2]? = some (.int .i64 (rat zs i).frm) ∧ cs[i * 7 + 3]? = some (.int .i64 (rat zs i).to) ∧ cs[i * 7 + 4]? = some (.bool (rat zs i).via) ∧ cs[i * 7 + 5]? = some (.int .i64 (rat zs i).node) ∧ cs[i * 7 + 6]? = some p ∧ HIc (g + 1) w p (rat zs i).ways
theorem toRelsRowC.step {wr w1 : World} {g n k : Nat} {zs : List Rl} (h : toRelsRowC wr g n k zs) (hx : Nx wr w1) (hk : k < n) (p : Value) (h0 : HIc (g + 1) w1 p (rat zs k).ways) :
    toRelsRowC (((((((w1.setCell ⟨g, k * 7, none⟩ (.int .i64 (rat zs k).id)).setCell ⟨g, k * 7 + 1, none⟩ (.bool (rat zs k).only)).setCell ⟨g, k * 7 + 2, none⟩ (.int .i64 (rat zs k).frm)).setCell ⟨g, k * 7 + 3, none⟩ (.int .i64 (rat zs k).to)).setCell ⟨g, k * 7 + 4, none⟩ (.bool (rat zs k).via)).setCell ⟨g, k * 7 + 5, none⟩ (.int .i64 (rat zs k).node)).setCell ⟨g, k * 7 + 6, none⟩ p) g n (k + 1) zs := by
  obtain ⟨cs, BK, hs, hi⟩ := h
  have hm : (k + 1) * 7 ≤ n * 7 := Nat.mul_le_mul_right 7 hk
  refine ⟨_, ((((((((BK.next hx).set (k * 7) (.int .i64 (rat zs k).id)).set (k * 7 + 1) (.bool (rat zs k).only)).set (k * 7 + 2) (.int .i64 (rat zs k).frm)).set (k * 7 + 3) (.int .i64 (rat zs k).to)).set (k * 7 + 4) (.bool (rat zs k).via)).set (k * 7 + 5) (.int .i64 (rat zs k).node)).set (k * 7 + 6) p), by simpa using hs, fun i hik => ?_⟩
  by_cases e : i = k
  · subst e
    exact ⟨p, (by rw [set_ne _ (by omega)]; rw [set_ne _ (by omega)]; rw [set_ne _ (by omega)]; rw [set_ne _ (by omega)]; rw [set_ne _ (by omega)]; rw [set_ne _ (by omega)]; exact set_eq _ (by simp [hs]; omega)), (by rw [set_ne _ (by omega)]; rw [set_ne _ (by omega)]; rw [set_ne _ (by omega)]; rw [set_ne _ (by omega)]; rw [set_ne _ (by omega)]; exact set_eq _ (by simp [hs]; omega)), (by rw [set_ne _ (by omega)]; rw [set_ne _ (by omega)]; rw [set_ne _ (by omega)]; rw [set_ne _ (by omega)]; exact set_eq _ (by simp [hs]; omega)), (by rw [set_ne _ (by omega)]; rw [set_ne _ (by omega)]; rw [set_ne _ (by omega)]; exact set_eq _ (by simp [hs]; omega)), (by rw [set_ne _ (by omega)]; rw [set_ne _ (by omega)]; exact set_eq _ (by simp [hs]; omega)), (by rw [set_ne _ (by omega)]; exact set_eq _ (by simp [hs]; omega)), (by  exact set_eq _ (by simp [hs]; omega)), (((((((h0.store (by omega) _).store (by omega) _).store (by omega) _).store (by omega) _).store (by omega) _).store (by omega) _).store (by omega) _)⟩
  · obtain ⟨p', e0, e1, e2, e3, e4, e5, e6, i0⟩ := hi i (by omega)
    exact ⟨p', (by rw [set_ne _ (by omega)]; rw [set_ne _ (by omega)]; rw [set_ne _ (by omega)]; rw [set_ne _ (by omega)]; rw [set_ne _ (by omega)]; rw [set_ne _ (by omega)]; rw [set_ne _ (by omega)]; exact e0), (by rw [set_ne _ (by omega)]; rw [set_ne _ (by omega)]; rw [set_ne _ (by omega)]; rw [set_ne _ (by omega)]; rw [set_ne _ (by omega)]; rw [set_ne _ (by omega)]; rw [set_ne _ (by omega)]; exact e1), (by rw [set_ne _ (by omega)]; rw [set_ne _ (by omega)]; rw [set_ne _ (by omega)]; rw [set_ne _ (by omega)]; rw [set_ne _ (by omega)]; rw [set_ne _ (by omega)]; rw [set_ne _ (by omega)]; exact e2), (by rw [set_ne _ (by omega)]; rw [set_ne _ (by omega)]; rw [set_ne _ (by omega)]; rw [set_ne _ (by omega)]; rw [set_ne _ (by omega)]; rw [set_ne _ (by omega)]; rw [set_ne _ (by omega)]; exact e3), (by rw [set_ne _ (by omega)]; rw [set_ne _ (by omega)]; rw [set_ne _ (by omega)]; rw [set_ne _ (by omega)]; rw [set_ne _ (by omega)]; rw [set_ne _ (by omega)]; rw [set_ne _ (by omega)]; exact e4), (by rw [set_ne _ (by omega)]; rw [set_ne _ (by omega)]; rw [set_ne _ (by omega)]; rw [set_ne _ (by omega)]; rw [set_ne _ (by omega)]; rw [set_ne _ (by omega)]; rw [set_ne _ (by omega)]; exact e5), (by rw [set_ne _ (by omega)]; rw [set_ne _ (by omega)]; rw [set_ne _ (by omega)]; rw [set_ne _ (by omega)]; rw [set_ne _ (by omega)]; rw [set_ne _ (by omega)]; rw [set_ne _ (by omega)]; exact e6), ((((((((i0.next hx).store (by omega) _).store (by omega) _).store (by omega) _).store (by omega) _).store (by omega) _).store (by omega) _).store (by omega) _)⟩
theorem toRelsRowC.held {w : World} {g n : Nat} {zs : List Rl} (hn : zs.length = n) (hm : n ≤ maxLen) (h : toRelsRowC w g n n zs) : HRelsX g w (.slice (some ⟨g, 0, none⟩) n n) zs := by
  obtain ⟨cs, BK, hs, hi⟩ := h
  subst hn
  refine ⟨_, _, rfl, hm, fun h0 => ⟨g, 0, rfl, Nat.le_refl _, BK.lt, fun i hik => ?_⟩⟩
  obtain ⟨p', e0, e1, e2, e3, e4, e5, e6, i0⟩ := hi i hik
  exact ⟨p', BK.cell (by simpa using e0), BK.cell (by simpa using e1), BK.cell (by simpa using e2), BK.cell (by simpa using e3), BK.cell (by simpa using e4), BK.cell (by simpa using e5), BK.cell (by simpa using e6), i0.base (by omega)⟩

set_option maxHeartbeats 1000000 in
theorem toRels_c (B : Nat) (v : Value) (zs : List Rl) (w : World) (h0 : HRels B w v zs) (hs : zs.length ≤ 1048576) (hs1 : ∀ i, i < zs.length → (rat zs i).ways.length ≤ 1048576) :
    Calls Tryz.prog 27 #[v] w fun e w' => (∃ a' n' c', e = .returned (.slice a' n' c') ∧ HRelsX w.heap.size w' (.slice a' n' c') zs) ∧ Nu w w' := by
  obtain ⟨a, cap, rfl, hn, hk⟩ := h0
  generalize hz : zs.length = n at *
  have HZ : Hid (zs.length = n) := hz
  have HM : Hid (n ≤ maxLen) := hn
  clear hz hn
  have hmk := make_structs 35 93 (.agg #[.int .i64 0, .bool false, .int .i64 0, .int .i64 0, .bool false, .int .i64 0, .slice none 0 0]) 7 72 Tryz.underlying35 info49 n (by omega) (by omega)
  go_enter Tryz.func27, Tryz.ntmps27
  go_wp2
  go_loopw [4] (fun i wr => ∃ k : Nat, k ≤ n ∧ i = .int .i64 k ∧ Hid (toRelsRowC wr w.heap.size n k zs) ∧ Hid (Nu w wr)) (fun i _ => n - (intOf i).toNat)
  case atStart => exact ⟨0, Nat.zero_le _, rfl, ⟨_, Blk.made _ _ _ _, size_madeCells _ _, fun i hi => absurd hi (Nat.not_lt_zero _)⟩, ubox1 _ _ _⟩
  case round =>
    obtain ⟨k, hkn, rfl, HR, HN⟩ := hrel
    clear hmk
    by_cases hlt : k < n
    · obtain ⟨b, off, rfl, hB, hb, hc⟩ := hk (by omega)
      obtain ⟨p1, a0, a1, a2, a3, a4, a5, a6, n1⟩ := hc k hlt
      have a0 := cell_next HN.out.nx hb a0
      have a1 := cell_next HN.out.nx hb a1
      have a2 := cell_next HN.out.nx hb a2
      have a3 := cell_next HN.out.nx hb a3
      have a4 := cell_next HN.out.nx hb a4
      have a5 := cell_next HN.out.nx hb a5
      have a6 := cell_next HN.out.nx hb a6
      have hlt' : (k : Int) < n := by omega
      obtain ⟨cs, BK, hcs, _⟩ := HR.out
      have hm : (k + 1) * 7 ≤ n * 7 := Nat.mul_le_mul_right 7 hlt
      have hsz : w.heap.size < wr.heap.size := BK.lt
      clear hc hk
      go_wp2_with fail
      refine (toRel_c B (rat zs k) _ _ (by exact n1.next HN.out.nx) (hs1 k hlt)).mono ?_
      rintro e w1 ⟨⟨q1, m1, c1, rfl, g0'⟩, hu⟩
      have hx := hu.nx
      have BK1 := BK.next hx
      have g0 : Hid (HIc wr.heap.size w1 (.slice q1 m1 c1) (rat zs k).ways) := g0'
      clear g0'
      have r0 := BK1.cell (i := k * 7) (Array.getElem?_eq_getElem (by omega))
      have r1 := BK1.cell (i := k * 7 + 1) (Array.getElem?_eq_getElem (by omega))
      have r2 := BK1.cell (i := k * 7 + 2) (Array.getElem?_eq_getElem (by omega))
      have r3 := BK1.cell (i := k * 7 + 3) (Array.getElem?_eq_getElem (by omega))
      have r4 := BK1.cell (i := k * 7 + 4) (Array.getElem?_eq_getElem (by omega))
      have r5 := BK1.cell (i := k * 7 + 5) (Array.getElem?_eq_getElem (by omega))
      have r6 := BK1.cell (i := k * 7 + 6) (Array.getElem?_eq_getElem (by omega))
      have f0 := BK1.frozen (k * 7)
      have f1 := BK1.frozen (k * 7 + 1)
      have f2 := BK1.frozen (k * 7 + 2)
      have f3 := BK1.frozen (k * 7 + 3)
      have f4 := BK1.frozen (k * 7 + 4)
      have f5 := BK1.frozen (k * 7 + 5)
      have f6 := BK1.frozen (k * 7 + 6)
      have HX : Hid (Nu wr w1) := hu
      clear hx hu BK BK1
      go_wp2
      go_roundw
      case rel => exact ⟨k + 1, by omega, by go_num, HR.out.step HX.out.nx hlt _ (g0.out.base (by omega)), Nu.setCell (Nu.setCell (Nu.setCell (Nu.setCell (Nu.setCell (Nu.setCell (Nu.setCell (HN.out.trans HX.out) (Nat.le_refl _) _) (Nat.le_refl _) _) (Nat.le_refl _) _) (Nat.le_refl _) _) (Nat.le_refl _) _) (Nat.le_refl _) _) (Nat.le_refl _) _⟩
      case measure => simp [intOf]; omega
    · go_wp2
      go_ret
      have e : k = n := by omega
      subst e
      exact ⟨⟨_, _, _, rfl, HR.out.held HZ.out HM.out⟩, HN.out⟩
set_option maxHeartbeats 1000000 in
theorem toNet_c (B : Nat) (v0 v1 v2 v3 : Value) (N : Nt) (w : World) (h0 : HNet B w v0 v1 v2 v3 N) (hs : Small N) :
    Calls Tryz.prog 7 #[.agg #[v0, v1, v2, v3, .int .i64 N.uturn]] w fun e w' => (∃ a0 n0 c0 a1 n1 c1 a2 n2 c2 a3 n3 c3, e = .returned (.agg #[.slice a0 n0 c0, .slice a1 n1 c1, .slice a2 n2 c2, .slice a3 n3 c3, .int .i64 N.uturn]) ∧ HNetC w.heap.size w' (.slice a0 n0 c0) (.slice a1 n1 c1) (.slice a2 n2 c2) (.slice a3 n3 c3) N) ∧ Nu w w' := by
  obtain ⟨i0, i1, i2, i3⟩ := h0
  go_enter Tryz.func7, Tryz.ntmps7
  go_wp2_with fail
  have HXX : Hid (Nu w (((w.alloc (.cells #[v0, v1, v2, v3, .int .i64 N.uturn] 27)).alloc (.cells #[.slice none 0 0, .slice none 0 0, .slice none 0 0, .slice none 0 0, .int .i64 0] 38)).alloc (.cells #[.slice none 0 0, .slice none 0 0, .slice none 0 0, .slice none 0 0, .int .i64 0] 38))) := (ubox2 _ _ _ _ _).alloc _ _
  have BA : Blk (((w.alloc (.cells #[v0, v1, v2, v3, .int .i64 N.uturn] 27)).alloc (.cells #[.slice none 0 0, .slice none 0 0, .slice none 0 0, .slice none 0 0, .int .i64 0] 38)).alloc (.cells #[.slice none 0 0, .slice none 0 0, .slice none 0 0, .slice none 0 0, .int .i64 0] 38)) w.heap.size #[v0, v1, v2, v3, .int .i64 N.uturn] := ((Blk.new w _ 27 _ rfl).alloc _).alloc _
  have BB : Blk (((w.alloc (.cells #[v0, v1, v2, v3, .int .i64 N.uturn] 27)).alloc (.cells #[.slice none 0 0, .slice none 0 0, .slice none 0 0, .slice none 0 0, .int .i64 0] 38)).alloc (.cells #[.slice none 0 0, .slice none 0 0, .slice none 0 0, .slice none 0 0, .int .i64 0] 38)) (w.heap.size + 1) #[.slice none 0 0, .slice none 0 0, .slice none 0 0, .slice none 0 0, .int .i64 0] := (Blk.new _ _ 38 _ (by simp)).alloc _
  have BC : Blk (((w.alloc (.cells #[v0, v1, v2, v3, .int .i64 N.uturn] 27)).alloc (.cells #[.slice none 0 0, .slice none 0 0, .slice none 0 0, .slice none 0 0, .int .i64 0] 38)).alloc (.cells #[.slice none 0 0, .slice none 0 0, .slice none 0 0, .slice none 0 0, .int .i64 0] 38)) (w.heap.size + 1 + 1) #[.slice none 0 0, .slice none 0 0, .slice none 0 0, .slice none 0 0, .int .i64 0] := Blk.new _ _ 38 _ (by simp)
  have hsz : w.heap.size + 3 ≤ (((w.alloc (.cells #[v0, v1, v2, v3, .int .i64 N.uturn] 27)).alloc (.cells #[.slice none 0 0, .slice none 0 0, .slice none 0 0, .slice none 0 0, .int .i64 0] 38)).alloc (.cells #[.slice none 0 0, .slice none 0 0, .slice none 0 0, .slice none 0 0, .int .i64 0] 38)).heap.size := by simp
  refine (toInts_any B _ N.nodes _ (by exact i0.keep (HXX.out.keeps B)) hs.nodes).mono ?_
  rintro e w0 ⟨⟨a0, n0, c0, rfl, g0⟩, hu⟩
  have hx := hu.nx
  have HX : Hid (Nu w w0) := HXX.out.trans hu
  clear HXX
  have BA := BA.next hx
  have BB := BB.next hx
  have BC := BC.next hx
  have G0 : Hid (HInts (w.heap.size + 3) w0 (.slice a0 n0 c0) N.nodes) := g0.base hsz
  have hsz : w.heap.size + 3 ≤ w0.heap.size := Nat.le_trans hsz hx.size
  clear hx hu g0
  have k0 := BA.cell (i := 1) rfl
  have k1 := BC.cell (i := 0) rfl
  have k2 := BC.frozen 0
  have HS : Hid (w.heap.size + 3 ≤ w0.heap.size) := hsz
  go_wp2_with fail
  have HXX : Hid (Nu w (w0.setCell ⟨w.heap.size + 1 + 1, 0, none⟩ (.slice a0 n0 c0))) := Nu.setCell HX.out (by simp; omega) _
  have BA := BA.setOther (g := w.heap.size + 1 + 1) (by omega) 0 (.slice a0 n0 c0)
  have BB := BB.setOther (g := w.heap.size + 1 + 1) (by omega) 0 (.slice a0 n0 c0)
  have BC := BC.set 0 (.slice a0 n0 c0)
  have hsz : w.heap.size + 3 ≤ (w0.setCell ⟨w.heap.size + 1 + 1, 0, none⟩ (.slice a0 n0 c0)).heap.size := by simp only [World.setCell, Array.size_modify]; exact HS.out
  have G0 : Hid (HInts (w.heap.size + 3) (w0.setCell ⟨w.heap.size + 1 + 1, 0, none⟩ (.slice a0 n0 c0)) (.slice a0 n0 c0) N.nodes) := G0.out.keep (set_keeps _ _ (by omega) _)
  clear k0 k1 k2 HS HX
  refine (toWays_any B _ N.ways _ (by exact i1.keep (HXX.out.keeps B)) hs.ways hs.way).mono ?_
  rintro e w1 ⟨⟨a1, n1, c1, rfl, g1⟩, hu⟩
  have hx := hu.nx
  have HX : Hid (Nu w w1) := HXX.out.trans hu
  clear HXX
  have BA := BA.next hx
  have BB := BB.next hx
  have BC := BC.next hx
  have G1 : Hid (HWays (w.heap.size + 3) w1 (.slice a1 n1 c1) N.ways) := g1.base hsz
  have G0 : Hid (HInts (w.heap.size + 3) w1 (.slice a0 n0 c0) N.nodes) := G0.out.keep (hx.keeps _)
  have hsz : w.heap.size + 3 ≤ w1.heap.size := Nat.le_trans hsz hx.size
  clear hx hu g1
  have k0 := BA.cell (i := 2) rfl
  have k1 := BC.cell (i := 1) rfl
  have k2 := BC.frozen 1
  have HS : Hid (w.heap.size + 3 ≤ w1.heap.size) := hsz
  go_wp2_with fail
  have HXX : Hid (Nu w (w1.setCell ⟨w.heap.size + 1 + 1, 1, none⟩ (.slice a1 n1 c1))) := Nu.setCell HX.out (by simp; omega) _
  have BA := BA.setOther (g := w.heap.size + 1 + 1) (by omega) 1 (.slice a1 n1 c1)
  have BB := BB.setOther (g := w.heap.size + 1 + 1) (by omega) 1 (.slice a1 n1 c1)
  have BC := BC.set 1 (.slice a1 n1 c1)
  have hsz : w.heap.size + 3 ≤ (w1.setCell ⟨w.heap.size + 1 + 1, 1, none⟩ (.slice a1 n1 c1)).heap.size := by simp only [World.setCell, Array.size_modify]; exact HS.out
  have G0 : Hid (HInts (w.heap.size + 3) (w1.setCell ⟨w.heap.size + 1 + 1, 1, none⟩ (.slice a1 n1 c1)) (.slice a0 n0 c0) N.nodes) := G0.out.keep (set_keeps _ _ (by omega) _)
  have G1 : Hid (HWays (w.heap.size + 3) (w1.setCell ⟨w.heap.size + 1 + 1, 1, none⟩ (.slice a1 n1 c1)) (.slice a1 n1 c1) N.ways) := G1.out.keep (set_keeps _ _ (by omega) _)
  clear k0 k1 k2 HS HX
  refine (toRels_c B _ N.rels _ (by exact i2.keep (HXX.out.keeps B)) hs.rels hs.rel).mono ?_
  rintro e w2 ⟨⟨a2, n2, c2, rfl, g2⟩, hu⟩
  have hx := hu.nx
  have HX : Hid (Nu w w2) := HXX.out.trans hu
  clear HXX
  have BA := BA.next hx
  have BB := BB.next hx
  have BC := BC.next hx
  have G2 : Hid (HRelsX (w.heap.size + 3) w2 (.slice a2 n2 c2) N.rels) := g2.base hsz
  have G0 : Hid (HInts (w.heap.size + 3) w2 (.slice a0 n0 c0) N.nodes) := G0.out.keep (hx.keeps _)
  have G1 : Hid (HWays (w.heap.size + 3) w2 (.slice a1 n1 c1) N.ways) := G1.out.keep (hx.keeps _)
  have hsz : w.heap.size + 3 ≤ w2.heap.size := Nat.le_trans hsz hx.size
  clear hx hu g2
  have k0 := BA.cell (i := 3) rfl
  have k1 := BC.cell (i := 2) rfl
  have k2 := BC.frozen 2
  have HS : Hid (w.heap.size + 3 ≤ w2.heap.size) := hsz
  go_wp2_with fail
  have HXX : Hid (Nu w (w2.setCell ⟨w.heap.size + 1 + 1, 2, none⟩ (.slice a2 n2 c2))) := Nu.setCell HX.out (by simp; omega) _
  have BA := BA.setOther (g := w.heap.size + 1 + 1) (by omega) 2 (.slice a2 n2 c2)
  have BB := BB.setOther (g := w.heap.size + 1 + 1) (by omega) 2 (.slice a2 n2 c2)
  have BC := BC.set 2 (.slice a2 n2 c2)
  have hsz : w.heap.size + 3 ≤ (w2.setCell ⟨w.heap.size + 1 + 1, 2, none⟩ (.slice a2 n2 c2)).heap.size := by simp only [World.setCell, Array.size_modify]; exact HS.out
  have G0 : Hid (HInts (w.heap.size + 3) (w2.setCell ⟨w.heap.size + 1 + 1, 2, none⟩ (.slice a2 n2 c2)) (.slice a0 n0 c0) N.nodes) := G0.out.keep (set_keeps _ _ (by omega) _)
  have G1 : Hid (HWays (w.heap.size + 3) (w2.setCell ⟨w.heap.size + 1 + 1, 2, none⟩ (.slice a2 n2 c2)) (.slice a1 n1 c1) N.ways) := G1.out.keep (set_keeps _ _ (by omega) _)
  have G2 : Hid (HRelsX (w.heap.size + 3) (w2.setCell ⟨w.heap.size + 1 + 1, 2, none⟩ (.slice a2 n2 c2)) (.slice a2 n2 c2) N.rels) := G2.out.keep (set_keeps _ _ (by omega) _)
  clear k0 k1 k2 HS HX
  refine (toTurns_any B _ N.turns _ (by exact i3.keep (HXX.out.keeps B)) hs.turns).mono ?_
  rintro e w3 ⟨⟨a3, n3, c3, rfl, g3⟩, hu⟩
  have hx := hu.nx
  have HX : Hid (Nu w w3) := HXX.out.trans hu
  clear HXX
  have BA := BA.next hx
  have BB := BB.next hx
  have BC := BC.next hx
  have G3 : Hid (HTurns (w.heap.size + 3) w3 (.slice a3 n3 c3) N.turns) := g3.base hsz
  have G0 : Hid (HInts (w.heap.size + 3) w3 (.slice a0 n0 c0) N.nodes) := G0.out.keep (hx.keeps _)
  have G1 : Hid (HWays (w.heap.size + 3) w3 (.slice a1 n1 c1) N.ways) := G1.out.keep (hx.keeps _)
  have G2 : Hid (HRelsX (w.heap.size + 3) w3 (.slice a2 n2 c2) N.rels) := G2.out.keep (hx.keeps _)
  have hsz : w.heap.size + 3 ≤ w3.heap.size := Nat.le_trans hsz hx.size
  clear hx hu g3
  have k0 := BA.cell (i := 4) rfl
  have l0 := BC.cell (i := 0) rfl
  have m0 := BB.cell (i := 0) rfl
  have f0 := BB.frozen 0
  have l1 := BC.cell (i := 1) rfl
  have m1 := BB.cell (i := 1) rfl
  have f1 := BB.frozen 1
  have l2 := BC.cell (i := 2) rfl
  have m2 := BB.cell (i := 2) rfl
  have f2 := BB.frozen 2
  have l3 := BC.cell (i := 3) rfl
  have m3 := BB.cell (i := 3) rfl
  have f3 := BB.frozen 3
  have l4 := BC.cell (i := 4) rfl
  have m4 := BB.cell (i := 4) rfl
  have f4 := BB.frozen 4
  have f5 := BC.frozen 3
  have f6 := BC.frozen 4
  go_wp2
  have K7 := ((((((set_keeps (B := w.heap.size + 3) w3 (g := w.heap.size + 1 + 1) 3 (by omega) (.slice a3 n3 c3)).trans (set_keeps _ (g := w.heap.size + 1 + 1) 4 (by omega) (.int .i64 N.uturn))).trans (set_keeps _ (g := w.heap.size + 1) 0 (by omega) (.slice a0 n0 c0))).trans (set_keeps _ (g := w.heap.size + 1) 1 (by omega) (.slice a1 n1 c1))).trans (set_keeps _ (g := w.heap.size + 1) 2 (by omega) (.slice a2 n2 c2))).trans (set_keeps _ (g := w.heap.size + 1) 3 (by omega) (.slice a3 n3 c3))).trans (set_keeps _ (g := w.heap.size + 1) 4 (by omega) (.int .i64 N.uturn))
  refine bodyPost_ret (v := .agg #[.slice a0 n0 c0, .slice a1 n1 c1, .slice a2 n2 c2, .slice a3 n3 c3, .int .i64 N.uturn]) (by simp [results, Tryz.results7, go_sem, m0, m1, m2, m3, m4]) rfl ⟨⟨a0, n0, c0, a1, n1, c1, a2, n2, c2, a3, n3, c3, rfl, ?_, ?_, ?_, ?_⟩, ?_⟩
  · exact (G0.out.keep K7).base (by omega)
  · exact (G1.out.keep K7).base (by omega)
  · exact (G2.out.keep K7).base (by omega)
  · exact (G3.out.keep K7).base (by omega)
  · exact Nu.setCell (Nu.setCell (Nu.setCell (Nu.setCell (Nu.setCell (Nu.setCell (Nu.setCell HX.out (by simp; omega) _) (by simp; omega) _) (by simp) _) (by simp) _) (by simp) _) (by simp) _) (by simp) _
end Go.Proofs.YtcdjmpbdaiafgaaGreatDoor
