import Derived.Test.YtcdjmpbdaiafgaaGreatDoorLA
namespace Go.Proofs.YtcdjmpbdaiafgaaGreatDoor
open Go.RowKit Go.Sort Go.Maps
set_option linter.unusedVariables false
set_option maxRecDepth 100000

/-- an own map is written, as one step of a region that draws, in a fence -/
theorem step_mapUpdate_in {n0 : Nat} {P : Program} {ops : Array Oper} {o : Oper} {a : Act} {w : World} {K : Act → World → Prop} {Q : Exit → Act → World → Prop} {E : Prop}
    (hg : o.guard = none) (m x v : Operand) (t : TypeId) (hop : o.op = Op.mapUpdate t m x v)
    (k e : TypeId) (KK : Keyed P k) (ht : P.underlying t = some (.map k e)) (b n : Nat) (D : DataW Unit)
    (hm : a.eval m = .map (some b)) (hown : w.ownsMap P k ptrR b n D) (hn : n < maxLen) (key val : Value) (kl : Lit) (hx : a.eval x = key) (hv : a.eval v = val) (hkey : keyOf P k key = some kl)
    (d : DataW Unit) (ps : List MemPlace) (hval : ptrR val = some (d, ps))
    (hK : ∀ w', w'.ownsMap P k ptrR b (n + 1) (D.put kl d) → w.grownBy w' (some b) → K (a.put o.dst undef) w') :
    if Region.wanted o (yielded ops a.tmps) = true then Oper.wpIn Fence.wide n0 P o a w K Q else E := by
  have hw : Region.wanted o (yielded ops a.tmps) = true := by simp [Region.wanted, hg]
  rw [if_pos hw]
  obtain ⟨w', hrun, r1, r2⟩ := hown.update KK ht hn hkey hval
  unfold Oper.wpIn
  refine ⟨fun f _ => trivial, ?_⟩
  rw [show Fence.wide.round = none from rfl, Oper.semAt_none]
  simp [execOp, hop, hm, hx, hv, hrun, Result.andThen]
  exact hK w' r1 r2
def Lk0 (br bm : Nat) (v0 v1 v2 v3 : Value) (wb : Nat → Nat) : Lk := ⟨br, bm, v0, v1, v2, v3, wb, fun _ => 0, fun _ => .slice none 0 0, fun _ => .slice none 0 0, .slice none 0 0⟩
theorem wkids_lt {N : Nt} (h : LkIn N) {wb : Nat → Nat} {k : Nat} (hk : k < N.ways.length) : ∀ p ∈ wkids N wb k, p.1 < (wat N.ways k).id := fun p hp => by
  unfold wkids at hp
  obtain ⟨i, hi, rfl⟩ := List.mem_map.1 hp
  exact h.asc i k (List.mem_range.1 hi) hk
theorem BT.eb {w : World} {b e : Nat} {es : List Eg} {wb : Nat → Nat} (h : BT w b (ecell es wb e) 123) : EB w b e (eat es e) :=
  ⟨h.blk.cell (i := 0) rfl, h.blk.cell (i := 1) rfl, h.blk.cell (i := 2) rfl, h.blk.cell (i := 5) rfl, h.blk.cell (i := 6) rfl, h.blk.cell (i := 7) rfl⟩
theorem row_low {C C' t sz n : Nat} {w : World} {v : Value} {xs : List Value} (h : w.ownsRow C t sz v n xs) (hC : C' ≤ C) : w.ownsRow C' t sz v n xs := by
  refine ⟨h.1, ?_⟩
  rcases h.2 with h2 | ⟨g, cap, cur, hv, hg, r⟩
  · exact Or.inl h2
  · exact Or.inr ⟨g, cap, cur, hv, by omega, r⟩
theorem OwnS.base {C D C' D' : Nat} {w : World} {v : Value} {es : List Eg} {ls : List (List Nat)} (h : OwnS C D w v es ls) (hC : C' ≤ C) (hD : D' ≤ D) : OwnS C' D' w v es ls := by
  obtain ⟨us, hl, hr, hi⟩ := h
  exact ⟨us, hl, row_low hr hC, fun i hlt => row_low (hi i hlt) hD⟩
theorem run_mkMap (w : World) (n : Int) : (Instr.makeMap 112 (some (.int .i64 n))).run Tryz.prog w = .ok (.map (some w.heap.size)) (w.alloc (.map #[] 0)) := by
  kernel_rfl

theorem LR.made {C : Nat} (N : Nt) (es : List Eg) (v0 v1 v2 v3 : Value) (w : World) (hC : C ≤ w.heap.size) {br bm : Nat} (hm : bm = w.heap.size) (hr : br = w.heap.size + 1) : LR C N es 0 0 0 0 0 ((w.alloc (.map #[] 0)).alloc (.cells #[v0, v1, v2, v3, .int .i64 N.uturn, .slice none 0 0, .map (some bm)] 115)) (Lk0 br bm v0 v1 v2 v3 (fun _ => 0)) where
  road := BT.new _ _ _ _ (by rw [size_alloc']; exact hr)
  cr := by show C ≤ br; omega
  cm := by show C ≤ bm; omega
  cw := fun i hi => absurd hi (Nat.not_lt_zero _)
  ce := fun i hi => absurd hi (Nat.not_lt_zero _)
  map := by
    subst hm
    exact World.ownsMap.alloc (World.ownsMap_made w _ _ _) _
  way := fun i hi => absurd hi (Nat.not_lt_zero _)
  row := fun i hi => absurd hi (Nat.not_lt_zero _)
  all := ⟨rfl, Or.inl ⟨rfl, rfl⟩⟩
  edge := fun i hi => absurd hi (Nat.not_lt_zero _)
  apart := fun i j g hi => absurd hi (Nat.not_lt_zero _)
  apartE := fun i g hi => absurd hi (Nat.not_lt_zero _)
  trav := fun i hi => absurd hi (Nat.not_lt_zero _)
  bare := fun i _ hi => absurd hi (Nat.not_lt_zero _)

set_option maxHeartbeats 16000000 in
theorem linkRoad_any (B0 : Nat) (v0 v1 v2 v3 : Value) (N : Nt) (w : World) (h0 : HNet B0 w v0 v1 v2 v3 N) (hs : wsum N.ways N.ways.length ≤ 1048576) (hv : implValid N = true) :
    Calls Tryz.prog 30 #[.agg #[v0, v1, v2, v3, .int .i64 N.uturn]] w fun e w' => (∃ L : Lk, e = .returned (.pointer (some ⟨L.br, 0, none⟩)) ∧ L.v0 = v0 ∧ L.v1 = v1 ∧ L.v2 = v2 ∧ L.v3 = v3 ∧ LR w.heap.size N (E1 N) N.ways.length (E1 N).length (E1 N).length (E1 N).length N.ways.length w' L) ∧ Nx w w' := by
  obtain ⟨ip, hip, hp0, hp1, hp2⟩ := info_parts infoPtr
  have HLK : Hid (LkIn N) := lk_in hv
  have HRI : Hid (RoadIn N) := road_in hv
  have HVV : Hid (implValid N = true) := hv
  have HS : Hid (wsum N.ways N.ways.length ≤ 1048576) := hs
  have HI : Hid (HNet B0 w v0 v1 v2 v3 N) := h0
  obtain ⟨i0, i1, i2, i3⟩ := h0
  obtain ⟨a0, c0, rfl, _⟩ := i0.slice
  obtain ⟨a2, c2, rfl, _⟩ := i2.slice
  obtain ⟨a3, c3, rfl, _⟩ := i3.slice
  obtain ⟨a1, c1, rfl, hn1, hk1⟩ := i1
  generalize N.nodes.length = l0 at *
  generalize N.rels.length = l2 at *
  generalize N.turns.length = l3 at *
  generalize hnw : N.ways.length = nw at *
  have HNW : Hid (N.ways.length = nw) := hnw
  have hnw2 : nw ≤ 2000 := by have := HRI.out.c1; have := HNW.out; omega
  clear hnw i0 i2 i3 hv hs hn1
  have hmk := run_mkMap
  have hmx : Tryz.prog.follows .mixedOrders = true := by kernel_rfl
  go_enter Tryz.func30, Tryz.ntmps30
  go_upto_region 1 with fail
  go_cut [1, 2, 3] from 12 to 18 (fun s1 s2 s3 wc => Hid (s1 = .pointer (some ⟨w.heap.size, 0, none⟩) ∧ s2 = .pointer none ∧ s3 = .pointer (some ⟨w.heap.size + 2, 0, none⟩)) ∧ Hid (Nx w wc) ∧ Hid (BT wc w.heap.size #[.slice a0 l0 c0, .slice a1 nw c1, .slice a2 l2 c2, .slice a3 l3 c3, .int .i64 N.uturn] 38) ∧ Hid (LR w.heap.size N (E1 N) 0 0 0 0 0 wc (Lk0 (w.heap.size + 2) (w.heap.size + 1) (.slice a0 l0 c0) (.slice a1 nw c1) (.slice a2 l2 c2) (.slice a3 l3 c3) (fun _ => 0))))
  case first =>
    have BA := BT.new w #[.slice a0 l0 c0, .slice a1 nw c1, .slice a2 l2 c2, .slice a3 l3 c3, .int .i64 N.uturn] 38 _ rfl
    have y0 := BA.blk.cell (i := 0) rfl
    have y1 := BA.blk.cell (i := 1) rfl
    have y2 := BA.blk.cell (i := 2) rfl
    have y3 := BA.blk.cell (i := 3) rfl
    have y4 := BA.blk.cell (i := 4) rfl
    go_region_held3 (fun w' => w'.cell? ⟨w.heap.size, 0, none⟩ = some (.slice a0 l0 c0) ∧ w'.cell? ⟨w.heap.size, 1, none⟩ = some (.slice a1 nw c1) ∧ w'.cell? ⟨w.heap.size, 2, none⟩ = some (.slice a2 l2 c2) ∧ w'.cell? ⟨w.heap.size, 3, none⟩ = some (.slice a3 l3 c3) ∧ w'.cell? ⟨w.heap.size, 4, none⟩ = some (.int .i64 N.uturn)) (go_keep) (fail)
    all_goals go_wp2
    all_goals go_meet
    all_goals exact ⟨⟨rfl, rfl, rfl⟩, Nx.drew (Nx.alloc (Nx.alloc (box1 _ _) _) _), (((BA.chg (S := fun _ => False) (Chg.nx (box1 _ _)) id).chg (S := fun _ => False) (Chg.nx (box1 _ _)) id).chg (S := fun _ => False) (Chg.nx (show Nx _ (World.drew _) from (Below.refl _ _).drew)) id), (LR.made N _ _ _ _ _ _ (by rw [size_alloc']; omega) (by rw [size_alloc']) (by rw [size_alloc'])).next (show Nx _ (World.drew _) from (Below.refl _ _).drew)⟩
  case rest =>
  obtain ⟨hs3, HX0, HBA, HL0⟩ := hcut
  obtain ⟨e1, e2, e3⟩ := hs3.out
  subst e1 e2 e3
  clear hs3
  generalize hbr : w.heap.size + 2 = br at *
  generalize hbm : w.heap.size + 1 = bm at *
  have HBRM : Hid (br = w.heap.size + 2 ∧ bm = w.heap.size + 1) := ⟨hbr.symm, hbm.symm⟩
  clear hbr hbm
  have HCW : Hid (w.heap.size ≤ wc.heap.size) := HX0.out.size
  have k1 := HBA.out.blk.cell (i := 1) rfl
  go_wp2
  clear k1
  go_loopw [5, 22] (fun p5 i wr => ∃ (k : Nat) (wb : Nat → Nat), k ≤ nw ∧ i = .int .i64 k ∧ Hid (LR w.heap.size N (E1 N) k 0 0 0 0 wr (Lk0 br bm (.slice a0 l0 c0) (.slice a1 nw c1) (.slice a2 l2 c2) (.slice a3 l3 c3) wb)) ∧ Hid (Chg (fun x => x = bm) wc wr)) (fun _ i _ => nw - (intOf i).toNat)
  case atStart => exact ⟨0, _, Nat.zero_le _, rfl, HL0, Chg.nx (Below.refl _ _)⟩
  clear HL0
  obtain ⟨k, wb, hkn, rfl, HL, HC⟩ := hrel
  have HNR : Hid (Nx w wr) := Below.trans HX0.out (HC.out.below HCW.out (fun x e => by subst e; have := HBRM.out; omega))
  by_cases hlt : k < nw
  · obtain ⟨b, off, rfl, hB, hb, hc⟩ := hk1 (by omega)
    obtain ⟨p1, p2, d0, d1, d2, d3, n1, n2⟩ := hc k hlt
    obtain ⟨p1a, p1c, rfl, _⟩ := n1.slice
    obtain ⟨p2a, p2c, rfl, _⟩ := n2.slice
    have x0 := cellq HNR.out d0
    have x1 := cellq HNR.out d1
    have x2 := cellq HNR.out d2
    have x3 := cellq HNR.out d3
    have hlt' : (k : Int) < nw := by omega
    have HKN : Hid (k < N.ways.length) := by unfold Hid; rw [HNW.out]; exact hlt
    generalize (wat N.ways k).nodes.length = p1n at *
    generalize (wat N.ways k).weights.length = p2n at *
    clear hc d0 d1 d2 d3 n1 n2
    go_upto_region 5 with fail
    generalize hW5 : wr.alloc (.cells #[.int .i64 (wat N.ways k).id, .bool (wat N.ways k).both, .slice p1a p1n p1c, .slice p2a p2n p2c] 90) = w5
    have HX5 : Hid (Nx wr w5) := by unfold Hid; rw [← hW5]; exact box1 _ _
    have HBY : Hid (BT w5 wr.heap.size #[.int .i64 (wat N.ways k).id, .bool (wat N.ways k).both, .slice p1a p1n p1c, .slice p2a p2n p2c] 90) := by unfold Hid; rw [← hW5]; exact BT.new _ _ _ _ rfl
    have HL5 : Hid (LR w.heap.size N (E1 N) k 0 0 0 0 w5 (Lk0 br bm (.slice a0 l0 c0) (.slice (some ⟨b, off, none⟩) nw c1) (.slice a2 l2 c2) (.slice a3 l3 c3) wb)) := HL.out.next HX5.out
    have HZ5 : Hid (wr.heap.size < w5.heap.size ∧ w.heap.size ≤ wr.heap.size) := ⟨HBY.out.lt, HNR.out.size⟩
    have z1 : w5.cell? ⟨br, 6, none⟩ = some (.map (some bm)) := HL5.out.road.blk.cell (i := 6) rfl
    have z2 := HBY.out.blk.cell (i := 0) rfl
    clear hW5 x0 x1 x2 x3
    have HS0 : Hid ((fun w => w.cell? ⟨br, 6, none⟩ = some (.map (some bm)) ∧ w.cell? ⟨wr.heap.size, 0, none⟩ = some (.int .i64 (wat N.ways k).id)) w5.drew) := ⟨z1, z2⟩
    refine (wpIn_wide (n := 9)).1 ?_
    refine wpIn_region_S (c := 10) (S := fun w => w.cell? ⟨br, 6, none⟩ = some (.map (some bm)) ∧ w.cell? ⟨wr.heap.size, 0, none⟩ = some (.int .i64 (wat N.ways k).id)) hmx (by kernel_rfl) (fun hw hcl => ?_)
    refine anyS_take (i := 0) (v := .pointer (some ⟨br, 0, none⟩)) hw (by decide) hcl (noDefer_none rfl) rfl (by kernel_rfl) (by kernel_rfl) (by kernel_rfl) (fun _ _ _ h => h) ⟨Or.inl ⟨by rfl, ?y0⟩, fun _ => rfl⟩ HS0.out (fun hcl => ?_)
    case y0 =>
      rintro w ⟨c1, c2⟩
      go_simp
    refine anyS_take (i := 1) (v := .pointer (some ⟨br, 0, none⟩)) hw (by decide) hcl (noDefer_none rfl) rfl (by kernel_rfl) (by kernel_rfl) (by kernel_rfl) (fun _ _ _ h => h) ⟨Or.inl ⟨by rfl, ?y1⟩, fun _ => rfl⟩ HS0.out (fun hcl => ?_)
    case y1 =>
      rintro w ⟨c1, c2⟩
      go_simp
    refine anyS_take (i := 2) (v := .pointer (some ⟨br, 6, none⟩)) hw (by decide) hcl (noDefer_none rfl) rfl (by kernel_rfl) (by kernel_rfl) (by kernel_rfl) (fun _ _ _ h => h) ⟨Or.inl ⟨by rfl, ?y2⟩, fun _ => rfl⟩ HS0.out (fun hcl => ?_)
    case y2 =>
      rintro w ⟨c1, c2⟩
      go_simp
    refine anyS_take (i := 3) (v := .map (some bm)) hw (by decide) hcl (noDefer_none rfl) rfl (by kernel_rfl) (by kernel_rfl) (by kernel_rfl) (fun _ _ _ h => h) ⟨Or.inl ⟨by rfl, ?y3⟩, fun _ => rfl⟩ HS0.out (fun hcl => ?_)
    case y3 =>
      rintro w ⟨c1, c2⟩
      go_simp
    refine anyS_take (i := 4) (v := .pointer (some ⟨wr.heap.size, 0, none⟩)) hw (by decide) hcl (noDefer_none rfl) rfl (by kernel_rfl) (by kernel_rfl) (by kernel_rfl) (fun _ _ _ h => h) ⟨Or.inl ⟨by rfl, ?y4⟩, fun _ => rfl⟩ HS0.out (fun hcl => ?_)
    case y4 =>
      rintro w ⟨c1, c2⟩
      go_simp
    refine anyS_take (i := 5) (v := .int .i64 (wat N.ways k).id) hw (by decide) hcl (noDefer_none rfl) rfl (by kernel_rfl) (by kernel_rfl) (by kernel_rfl) (fun _ _ _ h => h) ⟨Or.inl ⟨by rfl, ?y5⟩, fun _ => rfl⟩ HS0.out (fun hcl => ?_)
    case y5 =>
      rintro w ⟨c1, c2⟩
      go_simp
    refine anyS_take (i := 6) (v := .pointer (some ⟨wr.heap.size, 0, none⟩)) hw (by decide) hcl (noDefer_none rfl) rfl (by kernel_rfl) (by kernel_rfl) (by kernel_rfl) (fun _ _ _ h => h) ⟨Or.inl ⟨by rfl, ?y6⟩, fun _ => rfl⟩ HS0.out (fun hcl => ?_)
    case y6 =>
      rintro w ⟨c1, c2⟩
      go_simp
    refine anyS_take (i := 7) (v := .int .i64 (wat N.ways k).id) hw (by decide) hcl (noDefer_none rfl) rfl (by kernel_rfl) (by kernel_rfl) (by kernel_rfl) (fun _ _ _ h => h) ⟨Or.inl ⟨by rfl, ?y7⟩, fun _ => rfl⟩ HS0.out (fun hcl => ?_)
    case y7 =>
      rintro w ⟨c1, c2⟩
      go_simp
    refine anyS_one (i := 8) (by kernel_rfl) (wpOpIn_step rfl (fun K hK => ?_))
    go_simp
    refine hK _ _ ⟨Or.inr ⟨z1, z2⟩, ?_⟩
    clear hK K
    refine anyS_one (i := 9) (by kernel_rfl) (wpOpIn_step rfl (fun K hK => ?_))
    go_simp
    refine hK _ _ ⟨Or.inr ⟨cellq (box1 _ _) z1, cellq (box1 _ _) z2⟩, ?_⟩
    clear hK K
    refine anyS_one (i := 10) (by kernel_rfl) (wpOpIn_step rfl (fun K hK => ?_))
    refine step_mapUpdate_in rfl (.tmp 29) (.tmp 31) (.tmp 35) 112 rfl 2 116 keyI Tryz.underlying112 bm k (kidsD (wkids N wb k)) (by simp [Act.eval]) (show (w5.alloc (.cells #[.int .i64 (wat N.ways k).id, .slice none 0 0, .slice none 0 0] 119)).ownsMap _ _ _ _ _ _ from HL5.out.map.alloc _) (by unfold maxLen; omega) (.int .i64 (wat N.ways k).id) (.pointer (some ⟨w5.heap.size, 0, none⟩)) (.int .i64 (wat N.ways k).id) (by simp [Act.eval]) (by simp [Act.eval]) (keyOf_int_mk Tryz.underlying2 (HLK.out.wf k HKN.out)) (.lit (.int .i64 (w5.heap.size : Int))) [] rfl ?_
    intro w6 hown hgrow1
    have hgrow : (w5.alloc (.cells #[.int .i64 (wat N.ways k).id, .slice none 0 0, .slice none 0 0] 119)).grownBy w6 (some bm) := ⟨hgrow1.os, hgrow1.tape, hgrow1.output, hgrow1.size, hgrow1.block⟩
    have HC6 : Hid (Chg (fun x => x = bm) w5 w6) := (Chg.nx (box1 _ _)).trans (Chg.grown hgrow (fun b e => Option.some.inj e))
    have HL6 : Hid (LR w.heap.size N (E1 N) (k + 1) 0 0 0 0 w6 (Lk0 br bm (.slice a0 l0 c0) (.slice (some ⟨b, off, none⟩) nw c1) (.slice a2 l2 c2) (.slice a3 l3 c3) (upd wb k w5.heap.size))) :=
      LR.newWay HL5.out (fun _ => rfl) (fun _ => rfl) HC6.out (Nat.le_refl _) (by have := HZ5.out; omega) ((BT.new w5 _ _ _ rfl).chg (Chg.grown hgrow (S := fun x => x = bm) (fun b e => Option.some.inj e)) (fun e => by have := HBRM.out; have := HL5.out.map.lt; have q : bm < w5.heap.size := this; omega)) (by rw [← kids_put _ (wkids_lt HLK.out HKN.out)]; exact hown)
    have HCC : Hid (Chg (fun x => x = bm) wc w6) := (HC.out.trans (Chg.nx HX5.out)).trans HC6.out
    refine hK _ _ ⟨Or.inl (by decide), ?_⟩
    clear hK K hown hgrow hgrow1
    refine anyS_done (by kernel_rfl) ?_ _
    clear hw hcl HS0 z1 z2
    go_wp2
    go_roundw
    case rel => exact ⟨k + 1, _, by omega, by go_num, HL6, HCC⟩
    case measure => simp [intOf]; omega
  have ek : nw = k := by omega
  subst ek
  clear hlt hkn
  go_upto_region 7 with fail
  have HBAr : Hid (BT wr w.heap.size #[.slice a0 l0 c0, .slice a1 nw c1, .slice a2 l2 c2, .slice a3 l3 c3, .int .i64 N.uturn] 38) := HBA.out.chg HC.out (by have := HBRM.out; omega)
  have y0 := HBAr.out.blk.cell (i := 0) rfl
  have y1 := HBAr.out.blk.cell (i := 1) rfl
  have y2 := HBAr.out.blk.cell (i := 2) rfl
  have y3 := HBAr.out.blk.cell (i := 3) rfl
  have y4 := HBAr.out.blk.cell (i := 4) rfl
  go_wp2_with fail
  refine (layEdges_any B0 _ _ _ _ N _ (by exact HI.out.next HNR.out) (by rw [HNW.out]; exact HS.out) HVV.out).mono ?_
  rintro e w7 ⟨⟨vE, rfl, hO7⟩, hx7⟩
  have HX7 : Hid (Nx wr w7) := hx7
  have HN7 : Hid (Nx w w7) := HNR.out.trans hx7
  have HE7 : Hid (OwnE wr.heap.size w7 vE (E1 N)) := hO7
  obtain ⟨ea, ec, hve, _⟩ := hO7.slice
  have hml : (E1 N).length ≤ 4000 := E1_le HRI.out
  generalize hm : (E1 N).length = m at *
  have HM : Hid ((E1 N).length = m) := hm
  subst hve
  have HL7 : Hid (LR w.heap.size N (E1 N) nw 0 0 0 0 w7 (Lk0 br bm (.slice a0 l0 c0) (.slice a1 nw c1) (.slice a2 l2 c2) (.slice a3 l3 c3) wb)) := HL.out.next HX7.out
  have HBA7 : Hid (BT w7 w.heap.size #[.slice a0 l0 c0, .slice a1 nw c1, .slice a2 l2 c2, .slice a3 l3 c3, .int .i64 N.uturn] 38) := HBAr.out.chg (S := fun _ => False) (Chg.nx HX7.out) id
  have HZ7 : Hid (w.heap.size < wr.heap.size ∧ wr.heap.size ≤ w7.heap.size) := ⟨HBAr.out.lt, hx7.size⟩
  clear hO7 hx7 hm y0 y1 y2 y3 y4 HL HC HNR HBAr HCW HX0 HBA
  generalize hwe : wr.heap.size = we at *
  clear hwe HX7
  go_wp2
  go_loopw [6, 7, 8, 9, 40] (fun p6 p7 p8 p9 i wr => ∃ (k : Nat) (wb eb : Nat → Nat) (vs : Nat → Value) (ve : Value), k ≤ m ∧ i = .int .i64 k ∧ Hid (LR w.heap.size N (E1 N) nw k k k 0 wr (Lk.mk br bm (.slice a0 l0 c0) (.slice a1 nw c1) (.slice a2 l2 c2) (.slice a3 l3 c3) wb eb vs (fun _ => .slice none 0 0) ve)) ∧ Hid (OwnE we wr (.slice ea m ec) (E1 N)) ∧ Hid (BT wr w.heap.size #[.slice a0 l0 c0, .slice a1 nw c1, .slice a2 l2 c2, .slice a3 l3 c3, .int .i64 N.uturn] 38) ∧ Hid (Nx w wr)) (fun _ _ _ _ i _ => m - (intOf i).toNat)
  case atStart => exact ⟨0, _, _, _, _, Nat.zero_le _, rfl, HL7, HE7, HBA7, HN7⟩
  clear HL7 HE7 HBA7 HN7 wb
  obtain ⟨k, wb, eb, vs, ve, hkm, rfl, HL, HE, HBA, HN⟩ := hrel
  by_cases hlt : k < m
  · have HKM : Hid (k < (E1 N).length) := by unfold Hid; rw [HM.out]; exact hlt
    obtain ⟨hmz, be, oe, rfl, hbe, hce⟩ := HEdges.at' HE.out.held (by have := HKM.out; omega)
    clear hmz
    obtain ⟨d0, d1, d2, d3, d4, d5, d6⟩ := hce k HKM.out
    obtain ⟨i, hiN, hiw⟩ := HLK.out.way k HKM.out
    rw [HNW.out] at hiN
    have HIW : Hid ((eat (E1 N) k).way = i) := hiw
    rw [hiw] at d3
    have HEC : Hid (ecell (E1 N) wb k = #[.int .i64 (eat (E1 N) k).tail, .int .i64 (eat (E1 N) k).head, .int .i64 (eat (E1 N) k).weight, .int .i64 (i : Int), .int .i64 (eat (E1 N) k).seg, .bool (eat (E1 N) k).back, .int .i64 (eat (E1 N) k).twin, .int .i64 (k : Int), .pointer (some ⟨wb i, 0, none⟩), .slice none 0 0, .slice none 0 0]) := by unfold Hid ecell; rw [hiw]; rfl
    have hlt' : (k : Int) < m := by omega
    obtain ⟨b, off, rfl, hB, hb, hc⟩ := hk1 (by omega)
    obtain ⟨p1, p2, q0, _⟩ := hc i hiN
    have q0 := cellq HN.out q0
    have HID : Hid ((Lit.int .i64 (wat N.ways i).id).wf = true) := HLK.out.wf i (by rw [HNW.out]; exact hiN)
    have HKO : Hid (kidOf (wkids N wb nw) (wat N.ways i).id = some (wb i)) := wkids_of hiN (HLK.out.inj (by rw [HNW.out]; exact Nat.le_refl _))
    generalize hX : eat (E1 N) k = X at *
    have HXE : Hid (eat (E1 N) k = X) := hX
    clear hX
    clear hce hc hiw
    go_upto_region 10 with fail
    generalize hW8 : wr.alloc (.cells #[.int .i64 X.tail, .int .i64 X.head, .int .i64 X.weight, .int .i64 (i : Int), .int .i64 X.seg, .bool X.back, .int .i64 X.twin] 107) = w8
    have HX8 : Hid (Nx wr w8) := by unfold Hid; rw [← hW8]; exact box1 _ _
    have HBG : Hid (BT w8 wr.heap.size #[.int .i64 X.tail, .int .i64 X.head, .int .i64 X.weight, .int .i64 (i : Int), .int .i64 X.seg, .bool X.back, .int .i64 X.twin] 107) := by unfold Hid; rw [← hW8]; exact BT.new _ _ _ _ rfl
    have HL8 : Hid (LR w.heap.size N (E1 N) nw k k k 0 w8 (Lk.mk br bm (.slice a0 l0 c0) (.slice (some ⟨b, off, none⟩) nw c1) (.slice a2 l2 c2) (.slice a3 l3 c3) wb eb vs (fun _ => .slice none 0 0) ve)) := HL.out.next HX8.out
    have HBA8 : Hid (BT w8 w.heap.size #[.slice a0 l0 c0, .slice (some ⟨b, off, none⟩) nw c1, .slice a2 l2 c2, .slice a3 l3 c3, .int .i64 N.uturn] 38) := HBA.out.chg (S := fun _ => False) (Chg.nx HX8.out) id
    have z1 : w8.cell? ⟨br, 6, none⟩ = some (.map (some bm)) := HL8.out.road.blk.cell (i := 6) rfl
    have z2 := HBG.out.blk.cell (i := 3) rfl
    have z3 := HBA8.out.blk.cell (i := 1) rfl
    have z4 := cellq HX8.out q0
    have z5 := HL8.out.map
    clear hW8 d0 d1 d2 d3 d4 d5 d6
    have hi0 : (0 : Int) ≤ (i : Int) := by omega
    have hi1 : (i : Int) < (nw : Int) := by omega
    have HS0 : Hid ((fun u => u.cell? ⟨br, 6, none⟩ = some (.map (some bm)) ∧ u.cell? ⟨wr.heap.size, 3, none⟩ = some (.int .i64 (i : Int)) ∧ u.cell? ⟨w.heap.size, 1, none⟩ = some (.slice (some ⟨b, off, none⟩) nw c1) ∧ u.cell? ⟨b, off + i * 4, none⟩ = some (.int .i64 (wat N.ways i).id) ∧ u.ownsMap Tryz.prog 2 ptrR bm nw (kidsD (wkids N wb nw))) w8.drew) := ⟨z1, z2, z3, z4, z5⟩
    refine (wpIn_wide (n := 9)).1 ?_
    refine wpIn_region_S (c := 13) (S := fun u => u.cell? ⟨br, 6, none⟩ = some (.map (some bm)) ∧ u.cell? ⟨wr.heap.size, 3, none⟩ = some (.int .i64 (i : Int)) ∧ u.cell? ⟨w.heap.size, 1, none⟩ = some (.slice (some ⟨b, off, none⟩) nw c1) ∧ u.cell? ⟨b, off + i * 4, none⟩ = some (.int .i64 (wat N.ways i).id) ∧ u.ownsMap Tryz.prog 2 ptrR bm nw (kidsD (wkids N wb nw))) hmx (by kernel_rfl) (fun hw hcl => ?_)
    refine anyS_take (i := 0) (v := .pointer (some ⟨br, 0, none⟩)) hw (by decide) hcl (noDefer_none rfl) rfl (by kernel_rfl) (by kernel_rfl) (by kernel_rfl) (fun _ _ _ h => h) ⟨Or.inl ⟨by rfl, ?y0⟩, fun _ => rfl⟩ HS0.out (fun hcl => ?_)
    case y0 =>
      rintro u ⟨c1, c2, c3, c4, c5⟩
      have hl := map_look c5 HID.out HKO.out
      go_simp
    refine anyS_take (i := 1) (v := .pointer (some ⟨br, 0, none⟩)) hw (by decide) hcl (noDefer_none rfl) rfl (by kernel_rfl) (by kernel_rfl) (by kernel_rfl) (fun _ _ _ h => h) ⟨Or.inl ⟨by rfl, ?y1⟩, fun _ => rfl⟩ HS0.out (fun hcl => ?_)
    case y1 =>
      rintro u ⟨c1, c2, c3, c4, c5⟩
      have hl := map_look c5 HID.out HKO.out
      go_simp
    refine anyS_take (i := 2) (v := .pointer (some ⟨br, 6, none⟩)) hw (by decide) hcl (noDefer_none rfl) rfl (by kernel_rfl) (by kernel_rfl) (by kernel_rfl) (fun _ _ _ h => h) ⟨Or.inl ⟨by rfl, ?y2⟩, fun _ => rfl⟩ HS0.out (fun hcl => ?_)
    case y2 =>
      rintro u ⟨c1, c2, c3, c4, c5⟩
      have hl := map_look c5 HID.out HKO.out
      go_simp
    refine anyS_take (i := 3) (v := .map (some bm)) hw (by decide) hcl (noDefer_none rfl) rfl (by kernel_rfl) (by kernel_rfl) (by kernel_rfl) (fun _ _ _ h => h) ⟨Or.inl ⟨by rfl, ?y3⟩, fun _ => rfl⟩ HS0.out (fun hcl => ?_)
    case y3 =>
      rintro u ⟨c1, c2, c3, c4, c5⟩
      have hl := map_look c5 HID.out HKO.out
      go_simp
    refine anyS_take (i := 4) (v := .pointer (some ⟨w.heap.size, 1, none⟩)) hw (by decide) hcl (noDefer_none rfl) rfl (by kernel_rfl) (by kernel_rfl) (by kernel_rfl) (fun _ _ _ h => h) ⟨Or.inl ⟨by rfl, ?y4⟩, fun _ => rfl⟩ HS0.out (fun hcl => ?_)
    case y4 =>
      rintro u ⟨c1, c2, c3, c4, c5⟩
      have hl := map_look c5 HID.out HKO.out
      go_simp
    refine anyS_take (i := 5) (v := .slice (some ⟨b, off, none⟩) nw c1) hw (by decide) hcl (noDefer_none rfl) rfl (by kernel_rfl) (by kernel_rfl) (by kernel_rfl) (fun _ _ _ h => h) ⟨Or.inl ⟨by rfl, ?y5⟩, fun _ => rfl⟩ HS0.out (fun hcl => ?_)
    case y5 =>
      rintro u ⟨c1, c2, c3, c4, c5⟩
      have hl := map_look c5 HID.out HKO.out
      go_simp
    refine anyS_take (i := 6) (v := .pointer (some ⟨wr.heap.size, 3, none⟩)) hw (by decide) hcl (noDefer_none rfl) rfl (by kernel_rfl) (by kernel_rfl) (by kernel_rfl) (fun _ _ _ h => h) ⟨Or.inl ⟨by rfl, ?y6⟩, fun _ => rfl⟩ HS0.out (fun hcl => ?_)
    case y6 =>
      rintro u ⟨c1, c2, c3, c4, c5⟩
      have hl := map_look c5 HID.out HKO.out
      go_simp
    refine anyS_take (i := 7) (v := .int .i64 (i : Int)) hw (by decide) hcl (noDefer_none rfl) rfl (by kernel_rfl) (by kernel_rfl) (by kernel_rfl) (fun _ _ _ h => h) ⟨Or.inl ⟨by rfl, ?y7⟩, fun _ => rfl⟩ HS0.out (fun hcl => ?_)
    case y7 =>
      rintro u ⟨c1, c2, c3, c4, c5⟩
      have hl := map_look c5 HID.out HKO.out
      go_simp
    refine anyS_take (i := 8) (v := .pointer (some ⟨b, off + i * 4, none⟩)) hw (by decide) hcl (noDefer_none rfl) rfl (by kernel_rfl) (by kernel_rfl) (by kernel_rfl) (fun _ _ _ h => h) ⟨Or.inl ⟨by rfl, ?y8⟩, fun _ => rfl⟩ HS0.out (fun hcl => ?_)
    case y8 =>
      rintro u ⟨c1, c2, c3, c4, c5⟩
      have hl := map_look c5 HID.out HKO.out
      go_simp
    refine anyS_take (i := 9) (v := .pointer (some ⟨b, off + i * 4, none⟩)) hw (by decide) hcl (noDefer_none rfl) rfl (by kernel_rfl) (by kernel_rfl) (by kernel_rfl) (fun _ _ _ h => h) ⟨Or.inl ⟨by rfl, ?y9⟩, fun _ => rfl⟩ HS0.out (fun hcl => ?_)
    case y9 =>
      rintro u ⟨c1, c2, c3, c4, c5⟩
      have hl := map_look c5 HID.out HKO.out
      go_simp
    refine anyS_take (i := 10) (v := .int .i64 (wat N.ways i).id) hw (by decide) hcl (noDefer_none rfl) rfl (by kernel_rfl) (by kernel_rfl) (by kernel_rfl) (fun _ _ _ h => h) ⟨Or.inl ⟨by rfl, ?y10⟩, fun _ => rfl⟩ HS0.out (fun hcl => ?_)
    case y10 =>
      rintro u ⟨c1, c2, c3, c4, c5⟩
      have hl := map_look c5 HID.out HKO.out
      go_simp
    refine anyS_take (i := 11) (v := .pointer (some ⟨wb i, 0, none⟩)) hw (by decide) hcl (noDefer_none rfl) rfl (by kernel_rfl) (by kernel_rfl) (by kernel_rfl) (fun _ _ _ h => h) ⟨Or.inl ⟨by rfl, ?y11⟩, fun _ => rfl⟩ HS0.out (fun hcl => ?_)
    case y11 =>
      rintro u ⟨c1, c2, c3, c4, c5⟩
      have hl := map_look c5 HID.out HKO.out
      go_simp
    refine anyS_take (i := 12) (v := .pointer (some ⟨wb i, 0, none⟩)) hw (by decide) hcl (noDefer_none rfl) rfl (by kernel_rfl) (by kernel_rfl) (by kernel_rfl) (fun _ _ _ h => h) ⟨Or.inl ⟨by rfl, ?y12⟩, fun _ => rfl⟩ HS0.out (fun hcl => ?_)
    case y12 =>
      rintro u ⟨c1, c2, c3, c4, c5⟩
      have hl := map_look c5 HID.out HKO.out
      go_simp
    refine anyS_done (by kernel_rfl) ?_ _
    clear hw hcl HS0 z1 z2 z3 z4 z5
    have HX9 : Hid (Nx w8 w8.drew) := (show Nx w8 w8.drew from (Below.refl _ _).drew)
    have HL9 : Hid (LR w.heap.size N (E1 N) nw k k k 0 w8.drew (Lk.mk br bm (.slice a0 l0 c0) (.slice (some ⟨b, off, none⟩) nw c1) (.slice a2 l2 c2) (.slice a3 l3 c3) wb eb vs (fun _ => .slice none 0 0) ve)) := HL8.out.next HX9.out
    have HBG9 : Hid (BT w8.drew wr.heap.size #[.int .i64 X.tail, .int .i64 X.head, .int .i64 X.weight, .int .i64 (i : Int), .int .i64 X.seg, .bool X.back, .int .i64 X.twin] 107) := HBG.out
    have HBA9 : Hid (BT w8.drew w.heap.size #[.slice a0 l0 c0, .slice (some ⟨b, off, none⟩) nw c1, .slice a2 l2 c2, .slice a3 l3 c3, .int .i64 N.uturn] 38) := HBA8.out
    have HE9 : Hid (OwnE we w8.drew (.slice (some ⟨be, oe, none⟩) m ec) (E1 N)) := (HE.out.next HX8.out).next HX9.out
    have HN9 : Hid (Nx w w8.drew) := (HN.out.trans HX8.out).trans HX9.out
    generalize w8.drew = w9 at *
    clear HL8 HBG HBA8 HX8 HX9 HL HE HBA HN
    have g0 := HBG9.out.blk.cell (i := 0) rfl
    have g1 := HBG9.out.blk.cell (i := 1) rfl
    have g2 := HBG9.out.blk.cell (i := 2) rfl
    have g3 := HBG9.out.blk.cell (i := 3) rfl
    have g4 := HBG9.out.blk.cell (i := 4) rfl
    have g5 := HBG9.out.blk.cell (i := 5) rfl
    have g6 := HBG9.out.blk.cell (i := 6) rfl
    go_upto_region 12 with fail
    clear g0 g1 g2 g3 g4 g5 g6 HBG9
    generalize hW10 : w9.alloc (.cells #[.int .i64 X.tail, .int .i64 X.head, .int .i64 X.weight, .int .i64 (i : Int), .int .i64 X.seg, .bool X.back, .int .i64 X.twin, .int .i64 (k : Int), .pointer (some ⟨wb i, 0, none⟩), .slice none 0 0, .slice none 0 0] 123) = w10
    have HX10 : Hid (Nx w9 w10) := by unfold Hid; rw [← hW10]; exact box1 _ _
    have HEB : Hid (BT w10 w9.heap.size (ecell (E1 N) wb k) 123) := by unfold Hid; rw [← hW10, HEC.out]; exact BT.new _ _ _ _ rfl
    have HL10 : Hid (LR w.heap.size N (E1 N) nw (k + 1) k k 0 w10 (Lk.mk br bm (.slice a0 l0 c0) (.slice (some ⟨b, off, none⟩) nw c1) (.slice a2 l2 c2) (.slice a3 l3 c3) wb (upd eb k w9.heap.size) vs (fun _ => .slice none 0 0) ve)) := LR.newEdge HL9.out (Nat.le_refl _) (Nat.le_refl _) (Nat.le_of_lt (Nat.lt_of_le_of_lt HL9.out.cr HL9.out.road.lt)) HX10.out HEB.out
    have HUP : Hid (upd eb k w9.heap.size k = w9.heap.size) := upd_at _ _ _
    have HBA10 : Hid (BT w10 w.heap.size #[.slice a0 l0 c0, .slice (some ⟨b, off, none⟩) nw c1, .slice a2 l2 c2, .slice a3 l3 c3, .int .i64 N.uturn] 38) := HBA9.out.chg (S := fun _ => False) (Chg.nx HX10.out) id
    have HE10 : Hid (OwnE we w10 (.slice (some ⟨be, oe, none⟩) m ec) (E1 N)) := HE9.out.next HX10.out
    have HN10 : Hid (Nx w w10) := HN9.out.trans HX10.out
    clear hW10 HL9 HBA9 HE9 HN9 HX10 HEC HEB
    generalize upd eb k w9.heap.size = eb2 at *
    generalize w9.heap.size = b9 at *
    have HWI : Hid (BT w10 (wb i) #[.int .i64 (wat N.ways i).id, vs i, .slice none 0 0] 119) := HL10.out.way i hiN
    have HRI2 : Hid (OwnPt w.heap.size w10 (vs i) ((ofTo (E1 N) i k).map eb2)) := HL10.out.row i hiN
    have HOL : Hid ((ofTo (E1 N) i k).length ≤ 4000) := by unfold Hid ofTo; have := List.length_filter_le (wayIs (E1 N) i) (List.range k); rw [List.length_range] at this; omega
    obtain ⟨va, vc, hvi⟩ := row_slice HRI2.out
    rw [List.length_map] at hvi
    have HVI : Hid (vs i = .slice va (ofTo (E1 N) i k).length vc) := hvi
    have HOW : Hid (w10.ownsRow w.heap.size 120 1 (.slice va (ofTo (E1 N) i k).length vc) (ofTo (E1 N) i k).length (ptc ((ofTo (E1 N) i k).map eb2))) := by unfold Hid; rw [← hvi]; have := HRI2.out; unfold OwnPt at this; rw [List.length_map] at this; exact this
    generalize hvn : (ofTo (E1 N) i k).length = vn at *
    have HVN : Hid ((ofTo (E1 N) i k).length = vn) := hvn
    have hvn4 : vn ≤ 4000 := HOL.out
    have t1 := HWI.out.blk.cell (i := 1) rfl
    rw [hvi] at t1
    clear hvi hvn
    go_wp2_with (at_builtin; refine wpList_append_own_at _ rfl _ _ 113 rfl w.heap.size 120 ip (.pointer none) 1 8 Tryz.underlying113 hip hp0 hp1 hp2 rfl (by decide) _ _ _ rfl (World.ownsRow.alloc HOW.out _) ⟨w10.heap.size, 0, none⟩ 1 1 [.pointer (some ⟨b9, 0, none⟩)] rfl rfl (fun j u hj => new_cells w10 _ _ _ rfl j u hj) ?f2 ?f3 ?f4 ?f5 ?_)
    case f2 => first | rfl | (intro u hu; simp at hu; subst hu; rfl)
    case f3 => unfold maxLen; omega
    case f4 => omega
    case f5 => have := HN10.out.size; first | omega | (rw [size_alloc']; omega)
    intro v7 w11 hown hgrow _ hat
    have HG11 : Hid (w10.grownBy w11 (vs i).ownBlock) := by unfold Hid; rw [HVI.out]; exact (World.grownBy_alloc w10 _ _).trans hgrow
    have HV11 : Hid (∀ g, v7.ownBlock = some g → (vs i).ownBlock = some g ∨ w10.heap.size ≤ g) := fun g hg => by
      rcases hat with h | h
      · exact Or.inl (by rw [HVI.out, ← h]; exact hg)
      · rw [h] at hg
        have h2 := Option.some.inj hg
        exact Or.inr (by first | omega | (rw [size_alloc'] at h2; omega))
    have HO11 : Hid (OwnPt w.heap.size w11 v7 ((ofTo (E1 N) i k).map eb2 ++ [eb2 k])) := by
      unfold Hid
      rw [HUP.out]
      refine OwnPt.snoc ?_
      rw [List.length_map, HVN.out]
      exact hown
    have HWB11 : Hid (BT w11 (wb i) #[.int .i64 (wat N.ways i).id, vs i, .slice none 0 0] 119) := HWI.out.chg (Chg.grown HG11.out (S := fun x => some x = (vs i).ownBlock) (fun b e => e)) (HWI.out.neRow HRI2.out (by decide))
    obtain ⟨a7, c7, hv7⟩ := row_slice hown
    subst hv7
    clear hown hgrow hat t1
    have t2 := HWB11.out.blk.cell (i := 1) rfl
    have f2 := HWB11.out.blk.frozen 1
    go_upto_region 13 with fail
    generalize hW12 : w11.setCell ⟨wb i, 1, none⟩ (.slice a7 (vn + 1) c7) = w12
    have HCH : Hid (Chg (fun x => some x = (vs i).ownBlock ∨ x = wb i) w10 w12) := by unfold Hid; rw [← hW12]; exact (Chg.grown HG11.out (fun b e => Or.inl e)).trans (Chg.set _ _ _ (Or.inr rfl))
    have HWB12 : Hid (BT w12 (wb i) #[.int .i64 (wat N.ways i).id, .slice a7 (vn + 1) c7, .slice none 0 0] 119) := by unfold Hid; rw [← hW12]; exact HWB11.out.set 1 _
    have HO12 : Hid (OwnPt w.heap.size w12 (.slice a7 (vn + 1) c7) ((ofTo (E1 N) i k).map eb2 ++ [eb2 k])) := by
      unfold Hid
      rw [← hW12]
      exact row_chg HO11.out (Chg.set (S := fun x => x = wb i) _ _ _ rfl) (fun g hg e => by subst e; exact HWB11.out.neRow HO11.out (by decide) hg.symm)
    have HL12 : Hid (LR w.heap.size N (E1 N) nw (k + 1) (k + 1) k 0 w12 (Lk.mk br bm (.slice a0 l0 c0) (.slice (some ⟨b, off, none⟩) nw c1) (.slice a2 l2 c2) (.slice a3 l3 c3) wb eb2 (upd vs i (.slice a7 (vn + 1) c7)) (fun _ => .slice none 0 0) ve)) := LR.toRow HL10.out (HLK.out.inj (by rw [HNW.out]; exact Nat.le_refl _)) hiN (by rw [HXE.out]; exact HIW.out) HCH.out HWB12.out HO12.out HV11.out
    have HBA12 : Hid (BT w12 w.heap.size #[.slice a0 l0 c0, .slice (some ⟨b, off, none⟩) nw c1, .slice a2 l2 c2, .slice a3 l3 c3, .int .i64 N.uturn] 38) := HBA10.out.chg HCH.out (fun e => e.elim (HBA10.out.neRow HRI2.out (by decide)) (HBA10.out.ne HWI.out (by decide)))
    have HE12 : Hid (OwnE we w12 (.slice (some ⟨be, oe, none⟩) m ec) (E1 N)) := row_chg HE10.out HCH.out (fun g hg e => e.elim (fun e => row_ne HE10.out HRI2.out (by decide) hg e) (fun e => by subst e; exact HWI.out.neRow HE10.out (by decide) hg.symm))
    have HN12 : Hid (Nx w w12) := Below.trans HN10.out (HCH.out.below HN10.out.size (fun x e => e.elim (fun e => (own_lt HRI2.out x e.symm).1) (fun e => by subst e; exact HL10.out.cw i hiN)))
    clear hW12 t2 f2 HL10 HBA10 HE10 HN10 HCH HWB12 HO12 HO11 HWB11 HV11 HG11 HWI HRI2 HOW HVI
    generalize upd vs i (.slice a7 (vn + 1) c7) = vs2 at *
    have HRD : Hid (BT w12 br #[.slice a0 l0 c0, .slice (some ⟨b, off, none⟩) nw c1, .slice a2 l2 c2, .slice a3 l3 c3, .int .i64 N.uturn, ve, .map (some bm)] 115) := HL12.out.road
    have HRA : Hid (OwnPt w.heap.size w12 ve ((List.range k).map eb2)) := HL12.out.all
    obtain ⟨va2, vc2, hve⟩ := row_slice HRA.out
    rw [List.length_map, List.length_range] at hve
    have HOW : Hid (w12.ownsRow w.heap.size 120 1 (.slice va2 k vc2) k (ptc ((List.range k).map eb2))) := by unfold Hid; rw [← hve]; have := HRA.out; unfold OwnPt at this; rw [List.length_map, List.length_range] at this; exact this
    subst hve
    have t1 := HRD.out.blk.cell (i := 5) rfl
    go_wp2_with (at_builtin; refine wpList_append_own_at _ rfl _ _ 113 rfl w.heap.size 120 ip (.pointer none) 1 8 Tryz.underlying113 hip hp0 hp1 hp2 rfl (by decide) _ _ _ rfl (World.ownsRow.alloc HOW.out _) ⟨w12.heap.size, 0, none⟩ 1 1 [.pointer (some ⟨b9, 0, none⟩)] rfl rfl (fun j u hj => new_cells w12 _ _ _ rfl j u hj) ?f2 ?f3 ?f4 ?f5 ?_)
    case f2 => first | rfl | (intro u hu; simp at hu; subst hu; rfl)
    case f3 => unfold maxLen; omega
    case f4 => omega
    case f5 => have := HN12.out.size; first | omega | (rw [size_alloc']; omega)
    intro v7 w13 hown hgrow _ hat
    have HG13 : Hid (w12.grownBy w13 (Value.slice va2 k vc2).ownBlock) := (World.grownBy_alloc w12 _ _).trans hgrow
    have HV13 : Hid (∀ g, v7.ownBlock = some g → (Value.slice va2 k vc2).ownBlock = some g ∨ w12.heap.size ≤ g) := fun g hg => by
      rcases hat with h | h
      · exact Or.inl (by rw [← h]; exact hg)
      · rw [h] at hg
        have h2 := Option.some.inj hg
        exact Or.inr (by first | omega | (rw [size_alloc'] at h2; omega))
    have HO13 : Hid (OwnPt w.heap.size w13 v7 ((List.range k).map eb2 ++ [eb2 k])) := by
      unfold Hid
      rw [HUP.out]
      refine OwnPt.snoc ?_
      rw [List.length_map, List.length_range]
      exact hown
    have HRD13 : Hid (BT w13 br #[.slice a0 l0 c0, .slice (some ⟨b, off, none⟩) nw c1, .slice a2 l2 c2, .slice a3 l3 c3, .int .i64 N.uturn, .slice va2 k vc2, .map (some bm)] 115) := HRD.out.chg (Chg.grown HG13.out (S := fun x => some x = (Value.slice va2 k vc2).ownBlock) (fun b e => e)) (HRD.out.neRow HRA.out (by decide))
    obtain ⟨a9, c9, hv7⟩ := row_slice hown
    subst hv7
    clear hown hgrow hat t1
    have t2 := HRD13.out.blk.cell (i := 5) rfl
    have f2 := HRD13.out.blk.frozen 5
    generalize hW14 : w13.setCell ⟨br, 5, none⟩ (.slice a9 (k + 1) c9) = w14
    have HCH : Hid (Chg (fun x => some x = (Value.slice va2 k vc2).ownBlock ∨ x = br) w12 w14) := by unfold Hid; rw [← hW14]; exact (Chg.grown HG13.out (fun b e => Or.inl e)).trans (Chg.set _ _ _ (Or.inr rfl))
    have HRD14 : Hid (BT w14 br #[.slice a0 l0 c0, .slice (some ⟨b, off, none⟩) nw c1, .slice a2 l2 c2, .slice a3 l3 c3, .int .i64 N.uturn, .slice a9 (k + 1) c9, .map (some bm)] 115) := by unfold Hid; rw [← hW14]; exact HRD13.out.set 5 _
    have HO14 : Hid (OwnPt w.heap.size w14 (.slice a9 (k + 1) c9) ((List.range k).map eb2 ++ [eb2 k])) := by
      unfold Hid
      rw [← hW14]
      exact row_chg HO13.out (Chg.set (S := fun x => x = br) _ _ _ rfl) (fun g hg e => by subst e; exact HRD13.out.neRow HO13.out (by decide) hg.symm)
    have HL14 : Hid (LR w.heap.size N (E1 N) nw (k + 1) (k + 1) (k + 1) 0 w14 (Lk.mk br bm (.slice a0 l0 c0) (.slice (some ⟨b, off, none⟩) nw c1) (.slice a2 l2 c2) (.slice a3 l3 c3) wb eb2 vs2 (fun _ => .slice none 0 0) (.slice a9 (k + 1) c9))) := LR.toAll HL12.out HCH.out HRD14.out HO14.out HV13.out
    have HBA14 : Hid (BT w14 w.heap.size #[.slice a0 l0 c0, .slice (some ⟨b, off, none⟩) nw c1, .slice a2 l2 c2, .slice a3 l3 c3, .int .i64 N.uturn] 38) := HBA12.out.chg HCH.out (fun e => e.elim (HBA12.out.neRow HRA.out (by decide)) (HBA12.out.ne HRD.out (by decide)))
    have HE14 : Hid (OwnE we w14 (.slice (some ⟨be, oe, none⟩) m ec) (E1 N)) := row_chg HE12.out HCH.out (fun g hg e => e.elim (fun e => row_ne HE12.out HRA.out (by decide) hg e) (fun e => by subst e; exact HRD.out.neRow HE12.out (by decide) hg.symm))
    have HN14 : Hid (Nx w w14) := Below.trans HN12.out (HCH.out.below HN12.out.size (fun x e => e.elim (fun e => (own_lt HRA.out x e.symm).1) (fun e => by subst e; exact HL12.out.cr)))
    have HEQ : Hid (w13.setCell ⟨br, 5, none⟩ (.slice a9 (k + 1) c9) = w14) := hW14
    clear hW14 HL12 HBA12 HE12 HN12 HCH HRD14 HO14 HO13 HRD13 HV13 HG13 HRD HRA HOW
    go_wp2
    try rw [HEQ.out]
    go_roundw
    case rel => exact ⟨k + 1, wb, eb2, vs2, _, by omega, by go_num, HL14, HE14, HBA14, HN14⟩
    case measure => simp [intOf]; omega
  have ek : m = k := by omega
  subst ek
  clear hlt hkm
  have y1 := HBA.out.blk.cell (i := 1) rfl
  have HLt : Hid (LR w.heap.size N (E1 N) nw m m m 0 wr (Lk.mk br bm (.slice a0 l0 c0) (.slice a1 nw c1) (.slice a2 l2 c2) (.slice a3 l3 c3) wb eb vs (fun _ => .slice none 0 0) ve)) := HL.out
  have HX2 : Hid (Nx w wr) := HN.out
  clear HL HN HE HZ7
  go_wp2
  clear y1
  go_loopw [11, 86] (fun p11 i wr => ∃ (k : Nat) (ts : Nat → Value), k ≤ nw ∧ i = .int .i64 k ∧ Hid (LR w.heap.size N (E1 N) nw m m m k wr (Lk.mk br bm (.slice a0 l0 c0) (.slice a1 nw c1) (.slice a2 l2 c2) (.slice a3 l3 c3) wb eb vs ts ve)) ∧ Hid (Nx w wr)) (fun _ i _ => nw - (intOf i).toNat)
  case atStart => exact ⟨0, _, Nat.zero_le _, rfl, HLt, HX2⟩
  clear HLt HX2 HBA
  obtain ⟨k, ts, hkn, rfl, HL, HN⟩ := hrel
  by_cases hlt : k < nw
  · obtain ⟨b, off, rfl, hB, hb, hc⟩ := hk1 (by omega)
    obtain ⟨p1, p2, d0, d1, d2, d3, n1, n2⟩ := hc k hlt
    obtain ⟨p1a, p1c, rfl, _⟩ := n1.slice
    obtain ⟨p2a, p2c, rfl, _⟩ := n2.slice
    have x0 := cellq HN.out d0
    have x1 := cellq HN.out d1
    have x2 := cellq HN.out d2
    have x3 := cellq HN.out d3
    have hlt' : (k : Int) < nw := by omega
    generalize (wat N.ways k).nodes.length = p1n at *
    generalize (wat N.ways k).weights.length = p2n at *
    clear hc d0 d1 d2 d3 n1 n2
    go_upto_region 18 with fail
    generalize hW5 : wr.alloc (.cells #[.int .i64 (wat N.ways k).id, .bool (wat N.ways k).both, .slice p1a p1n p1c, .slice p2a p2n p2c] 90) = w5
    have HX5 : Hid (Nx wr w5) := by unfold Hid; rw [← hW5]; exact box1 _ _
    have HBY : Hid (BT w5 wr.heap.size #[.int .i64 (wat N.ways k).id, .bool (wat N.ways k).both, .slice p1a p1n p1c, .slice p2a p2n p2c] 90) := by unfold Hid; rw [← hW5]; exact BT.new _ _ _ _ rfl
    have HL5 : Hid (LR w.heap.size N (E1 N) nw m m m k w5 (Lk.mk br bm (.slice a0 l0 c0) (.slice (some ⟨b, off, none⟩) nw c1) (.slice a2 l2 c2) (.slice a3 l3 c3) wb eb vs ts ve)) := HL.out.next HX5.out
    have HN5 : Hid (Nx w w5) := HN.out.trans HX5.out
    have z1 : w5.cell? ⟨br, 6, none⟩ = some (.map (some bm)) := HL5.out.road.blk.cell (i := 6) rfl
    have z2 := HBY.out.blk.cell (i := 0) rfl
    have z3 := HL5.out.map
    have HID : Hid ((Lit.int .i64 (wat N.ways k).id).wf = true) := HLK.out.wf k (by rw [HNW.out]; exact hlt)
    have HKO : Hid (kidOf (wkids N wb nw) (wat N.ways k).id = some (wb k)) := wkids_of hlt (HLK.out.inj (by rw [HNW.out]; exact Nat.le_refl _))
    clear hW5 x0 x1 x2 x3
    have HDR : Hid (Nx w5 w5.drew) := (show Nx w5 w5.drew from (Below.refl _ _).drew)
    have HLD : Hid (LR w.heap.size N (E1 N) nw m m m k w5.drew (Lk.mk br bm (.slice a0 l0 c0) (.slice (some ⟨b, off, none⟩) nw c1) (.slice a2 l2 c2) (.slice a3 l3 c3) wb eb vs ts ve)) := HL5.out.next HDR.out
    have HND : Hid (Nx w w5.drew) := HN5.out.trans HDR.out
    have HTB : Hid (BT w5.drew (wb k) #[.int .i64 (wat N.ways k).id, vs k, .slice none 0 0] 119) := by
      have h1 : BT w5.drew (wb k) #[.int .i64 (wat N.ways k).id, vs k, ts k] 119 := HLD.out.way k hlt
      have h2 : ts k = .slice none 0 0 := HLD.out.bare k (Nat.le_refl _) hlt
      rw [h2] at h1
      exact h1
    have HTP : Hid (HPtrs w.heap.size w5.drew (vs k) ((ofTo (E1 N) k m).map eb)) := OwnPt.held (HLD.out.row k hlt)
    have HTL : Hid ((ofTo (E1 N) k m).length ≤ 4000) := by unfold Hid ofTo; have := List.length_filter_le (wayIs (E1 N) k) (List.range m); rw [List.length_range] at this; omega
    have HTE : Hid (∀ e ∈ ofTo (E1 N) k m, EB w5.drew (eb e) e (eat (E1 N) e)) := fun e he => (HLD.out.edge e (ofTo_lt he)).eb
    have HTF : Hid ((ofTo (E1 N) k m).filter (fun e => !(eat (E1 N) e).back) ≠ []) := by have := HLK.out.fwd k (by rw [HNW.out]; exact hlt); rw [HM.out] at this; exact this
    have HS0 : Hid ((fun u => u.cell? ⟨br, 6, none⟩ = some (.map (some bm)) ∧ u.cell? ⟨wr.heap.size, 0, none⟩ = some (.int .i64 (wat N.ways k).id) ∧ u.ownsMap Tryz.prog 2 ptrR bm nw (kidsD (wkids N wb nw))) w5.drew) := ⟨z1, z2, z3⟩
    refine (wpIn_wide (n := 9)).1 ?_
    refine wpIn_region_S (c := 7) (S := fun u => u.cell? ⟨br, 6, none⟩ = some (.map (some bm)) ∧ u.cell? ⟨wr.heap.size, 0, none⟩ = some (.int .i64 (wat N.ways k).id) ∧ u.ownsMap Tryz.prog 2 ptrR bm nw (kidsD (wkids N wb nw))) hmx (by kernel_rfl) (fun hw hcl => ?_)
    refine anyS_take (i := 0) (v := .pointer (some ⟨br, 0, none⟩)) hw (by decide) hcl (noDefer_none rfl) rfl (by kernel_rfl) (by kernel_rfl) (by kernel_rfl) (fun _ _ _ h => h) ⟨Or.inl ⟨by rfl, ?y0⟩, fun _ => rfl⟩ HS0.out (fun hcl => ?_)
    case y0 =>
      rintro u ⟨c1, c2, c5⟩
      have hl := map_look c5 HID.out HKO.out
      go_simp
    refine anyS_take (i := 1) (v := .pointer (some ⟨br, 0, none⟩)) hw (by decide) hcl (noDefer_none rfl) rfl (by kernel_rfl) (by kernel_rfl) (by kernel_rfl) (fun _ _ _ h => h) ⟨Or.inl ⟨by rfl, ?y1⟩, fun _ => rfl⟩ HS0.out (fun hcl => ?_)
    case y1 =>
      rintro u ⟨c1, c2, c5⟩
      have hl := map_look c5 HID.out HKO.out
      go_simp
    refine anyS_take (i := 2) (v := .pointer (some ⟨br, 6, none⟩)) hw (by decide) hcl (noDefer_none rfl) rfl (by kernel_rfl) (by kernel_rfl) (by kernel_rfl) (fun _ _ _ h => h) ⟨Or.inl ⟨by rfl, ?y2⟩, fun _ => rfl⟩ HS0.out (fun hcl => ?_)
    case y2 =>
      rintro u ⟨c1, c2, c5⟩
      have hl := map_look c5 HID.out HKO.out
      go_simp
    refine anyS_take (i := 3) (v := .map (some bm)) hw (by decide) hcl (noDefer_none rfl) rfl (by kernel_rfl) (by kernel_rfl) (by kernel_rfl) (fun _ _ _ h => h) ⟨Or.inl ⟨by rfl, ?y3⟩, fun _ => rfl⟩ HS0.out (fun hcl => ?_)
    case y3 =>
      rintro u ⟨c1, c2, c5⟩
      have hl := map_look c5 HID.out HKO.out
      go_simp
    refine anyS_take (i := 4) (v := .pointer (some ⟨wr.heap.size, 0, none⟩)) hw (by decide) hcl (noDefer_none rfl) rfl (by kernel_rfl) (by kernel_rfl) (by kernel_rfl) (fun _ _ _ h => h) ⟨Or.inl ⟨by rfl, ?y4⟩, fun _ => rfl⟩ HS0.out (fun hcl => ?_)
    case y4 =>
      rintro u ⟨c1, c2, c5⟩
      have hl := map_look c5 HID.out HKO.out
      go_simp
    refine anyS_take (i := 5) (v := .int .i64 (wat N.ways k).id) hw (by decide) hcl (noDefer_none rfl) rfl (by kernel_rfl) (by kernel_rfl) (by kernel_rfl) (fun _ _ _ h => h) ⟨Or.inl ⟨by rfl, ?y5⟩, fun _ => rfl⟩ HS0.out (fun hcl => ?_)
    case y5 =>
      rintro u ⟨c1, c2, c5⟩
      have hl := map_look c5 HID.out HKO.out
      go_simp
    refine anyS_take (i := 6) (v := .pointer (some ⟨wb k, 0, none⟩)) hw (by decide) hcl (noDefer_none rfl) rfl (by kernel_rfl) (by kernel_rfl) (by kernel_rfl) (fun _ _ _ h => h) ⟨Or.inl ⟨by rfl, ?y6⟩, fun _ => rfl⟩ HS0.out (fun hcl => ?_)
    case y6 =>
      rintro u ⟨c1, c2, c5⟩
      have hl := map_look c5 HID.out HKO.out
      go_simp
    refine anyS_one (i := 7) (by kernel_rfl) (wpOpIn_step rfl (fun K hK => ?_))
    go_simp
    refine ⟨trivial, (callsIn_wide.2 (traverse_any w.heap.size (wb k) _ _ (E1 N) eb (ofTo (E1 N) k m) _ (by exact HTB.out) (by exact HTP.out) HTL.out HTE.out HTF.out)).mono ?_⟩
    rintro e w6 ⟨⟨x, rfl⟩, ⟨vt, hb6, hs6⟩, ho6⟩
    have HL6 : Hid (LR w.heap.size N (E1 N) nw m m m (k + 1) w6 (Lk.mk br bm (.slice a0 l0 c0) (.slice (some ⟨b, off, none⟩) nw c1) (.slice a2 l2 c2) (.slice a3 l3 c3) wb eb vs (upd ts k vt) ve)) := LR.toTrav HLD.out (HLK.out.inj (by rw [HNW.out]; exact Nat.le_refl _)) hlt ho6 hb6 (hs6.base HND.out.size HND.out.size)
    have HN6 : Hid (Nx w w6) := Below.trans HND.out (ho6.below (fun g e => by cases e; exact HLD.out.cw k hlt) HND.out.size)
    refine hK _ _ ⟨Or.inl (by decide), ?_⟩
    clear hK K hb6 hs6 ho6
    refine anyS_done (by kernel_rfl) ?_ _
    clear hw hcl HS0 z1 z2 z3
    go_wp2
    go_roundw
    case rel => exact ⟨k + 1, _, by omega, by go_num, HL6, HN6⟩
    case measure => simp [intOf]; omega
  have ek : nw = k := by omega
  subst ek
  clear hlt hkn
  go_wp2
  go_ret
  exact ⟨⟨_, rfl, rfl, rfl, rfl, rfl, by rw [HM.out]; exact HL.out⟩, HN.out⟩
end Go.Proofs.YtcdjmpbdaiafgaaGreatDoor
