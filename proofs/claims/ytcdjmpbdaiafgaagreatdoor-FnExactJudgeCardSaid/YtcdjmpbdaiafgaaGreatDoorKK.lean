import Derived.Test.YtcdjmpbdaiafgaaGreatDoorKJ
namespace Go.Proofs.YtcdjmpbdaiafgaaGreatDoor
open Go.RowKit Go.Sort
set_option linter.unusedVariables false
set_option maxRecDepth 100000

theorem E1_head {N : Nt} (h : RoadIn N) {e : Nat} (he : e < (E1 N).length) : 0 ≤ (eat (E1 N) e).head ∧ (eat (E1 N) e).head < N.nodes.length := by
  rw [E1_len] at he
  obtain ⟨i, j, q, hi, hj, hq, he1⟩ := lay_of N.ways.length he
  obtain ⟨_, a1⟩ := at_place hi hj hq
  rw [← he1] at a1
  have hm := asc_mono (fun i j => rfl) h.asc
  have hp : ∀ t, hasI N.nodes t = true → pos N.nodes t < N.nodes.length := by
    intro t ht
    obtain ⟨k, hk, rfl⟩ := hasI_at ht
    rw [pos_at hm hk]
    exact hk
  have hl := h.len i hi
  have hns : nsN N i = (wat N.ways i).weights.length := rfl
  have p0 := hp _ (h.has i j hi (by omega))
  have p1 := hp _ (h.has i (j + 1) hi (by omega))
  rw [a1]
  split
  · exact ⟨by simp [fwd], by simp [fwd]; omega⟩
  · split
    · exact ⟨by simp [fwd], by simp [fwd]; omega⟩
    · exact ⟨by simp [bwd], by simp [bwd]; omega⟩
theorem E1_le {N : Nt} (h : RoadIn N) : (E1 N).length ≤ 4000 := by
  rw [E1_len]
  unfold mN
  rw [st_ed]
  exact h.ed
/-- what a valid network says of ways and relations besides -/
structure RelsIn (N : Nt) : Prop where
  one : ∀ i, i < N.ways.length → 1 ≤ (wat N.ways i).weights.length
  rel : ∀ k, k < N.rels.length → relGood N (rat N.rels k) = true
  cnt : N.rels.length ≤ 1000
  ascw : ascW N.ways = true
theorem rels_in {N : Nt} (h : implValid N = true) : RelsIn N := by
  simp only [implValid, counts, Bool.and_eq_true, decide_eq_true_eq] at h
  obtain ⟨⟨c0, c1, ed, c2, c3⟩, hu, ⟨ha, hn⟩, ⟨hw, haw⟩, ⟨hr, _⟩, ht, _⟩ := h
  refine ⟨fun i hi => ?_, fun k hk => allN_at hr hk, c2, haw⟩
  have := allN_at hw hi
  simp only [wayGood, wayHead, Bool.and_eq_true, decide_eq_true_eq] at this
  obtain ⟨⟨⟨⟨⟨g0, g1⟩, g2⟩, g3⟩, g4⟩, g5⟩ := this
  exact g1
theorem edge_there {N : Nt} (h : RoadIn N) (h2 : RelsIn N) {i : Nat} (hi : i < N.ways.length) : thTo (E1 N) i (E1 N).length ≠ [] ∧ ((wat N.ways i).both = true → bkTo (E1 N) i (E1 N).length ≠ []) := by
  have h1 := h2.one i hi
  have hns : nsN N i = (wat N.ways i).weights.length := rfl
  have hbn : 1 ≤ bnN N i := by unfold bnN; split <;> omega
  constructor
  · obtain ⟨_, a1⟩ := at_place (N := N) (i := i) (j := 0) (q := 0) hi (by omega) (by omega)
    have hlt : st (nsN N) (bnN N) i + bnN N i * 0 + 0 < (E1 N).length := by rw [E1_len]; exact st_in hi (by omega) (by omega)
    intro e
    have hm : st (nsN N) (bnN N) i + bnN N i * 0 + 0 ∈ thTo (E1 N) i (E1 N).length := by
      unfold thTo
      rw [List.mem_filter]
      refine ⟨List.mem_range.2 hlt, ?_⟩
      unfold wayIs
      rw [a1]
      split
      · simp [fwd]
      · simp [fwd]
    rw [e] at hm
    simp at hm
  · intro hb
    have hbn2 : bnN N i = 2 := by unfold bnN; rw [if_pos hb]
    obtain ⟨_, a1⟩ := at_place (N := N) (i := i) (j := 0) (q := 1) hi (by omega) (by omega)
    have hlt : st (nsN N) (bnN N) i + bnN N i * 0 + 1 < (E1 N).length := by rw [E1_len]; exact st_in hi (by omega) (by omega)
    intro e
    have hm : st (nsN N) (bnN N) i + bnN N i * 0 + 1 ∈ bkTo (E1 N) i (E1 N).length := by
      unfold bkTo
      rw [List.mem_reverse, List.mem_filter]
      refine ⟨List.mem_range.2 hlt, ?_⟩
      unfold wayIs
      rw [a1, if_neg (by omega), if_neg (by omega)]
      simp [bwd]
    rw [e] at hm
    simp at hm
theorem all_in {N : Nt} (hv : implValid N = true) : AllIn N (roadY N) := by
  have h := road_in hv
  have h2 := rels_in hv
  intro k hk
  have hr := h2.rel k hk
  simp only [relGood, Bool.and_eq_true] at hr
  obtain ⟨_, hf, ht, hT⟩ := hr
  unfold relTail at hT
  refine ⟨hf, ht, ?_, fun j hj => ?_, fun i hi => edge_there h h2 hi, fun e he => E1_head h he⟩
  · split at hT
    · simp at hT; rw [hT.1]; simp
    · simp at hT; exact hT.2.2.1
  · split at hT
    · simp only [Bool.and_eq_true, decide_eq_true_eq] at hT; omega
    · simp only [Bool.and_eq_true, decide_eq_true_eq] at hT
      exact allN_at hT.2.2.2 hj
/-- the resolution of a network -/
def resOf (N : Nt) : Rs := if implValid N then resTo (chOf N (roadY N)) N.rels N.rels.length else ⟨[], []⟩

set_option maxHeartbeats 8000000 in
theorem specResolve_any (B0 : Nat) (v0 v1 v2 v3 : Value) (N : Nt) (w : World) (h0 : HNet B0 w v0 v1 v2 v3 N) (hs : wsum N.ways N.ways.length ≤ 1048576) :
    Calls Tryz.prog 6 #[.agg #[v0, v1, v2, v3, .int .i64 N.uturn]] w fun e w' => (∃ vr vd, e = .returned (.agg #[vr, vd]) ∧ OwnR w.heap.size w.heap.size w' vr (resOf N).rules ∧ OwnD w.heap.size w' vd (resOf N).drops) ∧ Nx w w' := by
  have HS : Hid (wsum N.ways N.ways.length ≤ 1048576) := hs
  have HI : Hid (HNet B0 w v0 v1 v2 v3 N) := h0
  obtain ⟨a0, q0, e0, jm, jk⟩ := h0.1
  clear jm jk
  obtain ⟨a1, q1, e1, jm, jk⟩ := h0.2.1
  clear jm jk
  obtain ⟨a2, q2, e2, jm, jk⟩ := h0.2.2.1
  clear jm jk
  obtain ⟨a3, q3, e3, jm, jk⟩ := h0.2.2.2
  clear jm jk
  generalize N.nodes.length = l0 at e0
  generalize N.ways.length = l1 at e1
  generalize N.rels.length = l2 at e2
  generalize N.turns.length = l3 at e3
  subst e0 e1 e2 e3
  clear hs h0
  generalize hWA : (w.alloc (.cells #[.slice a0 l0 q0, .slice a1 l1 q1, .slice a2 l2 q2, .slice a3 l3 q3, .int .i64 N.uturn] 38)).alloc (.cells #[.slice none 0 0, .slice none 0 0] 32) = wA
  have HXA : Hid (Nx w wA) := by unfold Hid; rw [← hWA]; exact box2 _ _ _
  have BG : Hid (Blk wA w.heap.size #[.slice a0 l0 q0, .slice a1 l1 q1, .slice a2 l2 q2, .slice a3 l3 q3, .int .i64 N.uturn]) := by unfold Hid; rw [← hWA]; exact (Blk.new w _ _ _ rfl).alloc _
  have BZ : Hid (Blk wA (w.heap.size + 1) #[.slice none 0 0, .slice none 0 0]) := by unfold Hid; rw [← hWA]; exact Blk.new _ _ _ _ (by rw [size_alloc'])
  have HSA : Hid (wA.heap.size = w.heap.size + 2) := by unfold Hid; rw [← hWA, size_alloc', size_alloc']
  go_enter Tryz.func6, Tryz.ntmps6
  go_upto_region 1 with fail
  clear hWA
  have k0 := BG.out.cell (i := 0) rfl
  have k1 := BG.out.cell (i := 1) rfl
  have k2 := BG.out.cell (i := 2) rfl
  have k3 := BG.out.cell (i := 3) rfl
  have k4 := BG.out.cell (i := 4) rfl
  go_wp2_with fail
  refine (specValid_any B0 _ _ _ _ N _ (by exact HI.out.next HXA.out) HS.out).mono ?_
  rintro e w1 ⟨rfl, hx⟩
  rw [specValid_same]
  have HXA1 : Hid (Nx wA w1) := hx
  have HX1 : Hid (Nx w w1) := HXA.out.trans hx
  have BG1 : Hid (Blk w1 w.heap.size #[.slice a0 l0 q0, .slice a1 l1 q1, .slice a2 l2 q2, .slice a3 l3 q3, .int .i64 N.uturn]) := BG.out.next hx
  have BZ1 : Hid (Blk w1 (w.heap.size + 1) #[.slice none 0 0, .slice none 0 0]) := BZ.out.next hx
  clear hx k0 k1 k2 k3 k4
  cases hv : implValid N
  case false =>
    have HF : Hid (resOf N = ⟨[], []⟩) := by unfold Hid resOf; rw [hv]; rfl
    clear hv
    have y0 := BZ1.out.cell (i := 0) rfl
    have y1 := BZ1.out.cell (i := 1) rfl
    have z0 := BZ1.out.frozen 0
    have z1 := BZ1.out.frozen 1
    go_wp2
    have BR' := (BZ1.out.set 0 (.slice none 0 0)).set 1 (.slice none 0 0)
    have p0 : _ = some (Value.slice none 0 0) := BR'.cell (i := 0) rfl
    have p1 : _ = some (Value.slice none 0 0) := BR'.cell (i := 1) rfl
    clear y0 y1 BR'
    refine bodyPost_ret (v := .agg #[.slice none 0 0, .slice none 0 0]) (by simp [results, Tryz.results6, go_sem, p0, p1]) rfl ?_
    rw [HF.out]
    exact ⟨⟨_, _, rfl, ⟨[], rfl, ⟨rfl, .inl ⟨rfl, rfl⟩⟩, fun i hi => absurd hi (Nat.not_lt_zero _)⟩, ⟨rfl, .inl ⟨rfl, rfl⟩⟩⟩, Below.setCell (Below.setCell HX1.out (Nat.le_succ _) _) (Nat.le_succ _) _⟩
  have HF : Hid (resOf N = resTo (chOf N (roadY N)) N.rels N.rels.length) := by unfold Hid resOf; rw [hv]; rfl
  have HRO : Hid (roadOf N = roadY N) := by unfold Hid roadOf; rw [hv]; rfl
  have HAL : Hid (AllIn N (roadY N)) := all_in hv
  have HLE : Hid ((roadY N).edges.length ≤ 4000) := E1_le (road_in hv)
  have HCN : Hid (N.rels.length ≤ 1000) := (rels_in hv).cnt
  clear hv
  have k0 := BG1.out.cell (i := 0) rfl
  have k1 := BG1.out.cell (i := 1) rfl
  have k2 := BG1.out.cell (i := 2) rfl
  have k3 := BG1.out.cell (i := 3) rfl
  have k4 := BG1.out.cell (i := 4) rfl
  go_upto_region 3 with fail
  go_region_held3 (fun w' => w'.cell? ⟨w.heap.size, 0, none⟩ = some (.slice a0 l0 q0) ∧ w'.cell? ⟨w.heap.size, 1, none⟩ = some (.slice a1 l1 q1) ∧ w'.cell? ⟨w.heap.size, 2, none⟩ = some (.slice a2 l2 q2) ∧ w'.cell? ⟨w.heap.size, 3, none⟩ = some (.slice a3 l3 q3) ∧ w'.cell? ⟨w.heap.size, 4, none⟩ = some (.int .i64 N.uturn)) (first | exact ⟨cellS (by omega) (cellS (by omega) (cellq HX3.out k0)), cellS (by omega) (cellS (by omega) (cellq HX3.out k1)), cellS (by omega) (cellS (by omega) (cellq HX3.out k2)), cellS (by omega) (cellS (by omega) (cellq HX3.out k3)), cellS (by omega) (cellS (by omega) (cellq HX3.out k4))⟩ | exact ⟨cellq HX3.out k0, cellq HX3.out k1, cellq HX3.out k2, cellq HX3.out k3, cellq HX3.out k4⟩ | exact ⟨cellq HX2.out k0, cellq HX2.out k1, cellq HX2.out k2, cellq HX2.out k3, cellq HX2.out k4⟩ | (go_keep; done)) (first | (go_at_call 25; refine (specRoad_any B0 _ _ _ _ N _ (by exact HI.out.next (HX1.out.trans (Below.refl _ _).drew)) HS.out).mono ?_; rintro e w2 ⟨⟨r0, r1, r2, r3, rfl, hRD⟩, hx2⟩; have HX2 : Hid (Nx w1 w2) := (Below.refl _ _).drew.trans hx2; rw [HRO.out] at hRD; have HRD : Hid (HRoad w1.heap.size w2 r0 r1 r2 r3 (roadY N)) := hRD; clear hRD hx2) | (go_at_call 24; refine (l2Resolve_any B0 w1.heap.size _ _ _ _ N _ _ _ _ (roadY N) _ (by exact HI.out.next (HX1.out.trans HX2.out)) (by exact HRD.out) HLE.out HAL.out HCN.out).mono ?_; rintro e w3 ⟨⟨vr, vd, rfl, hR3, hD3⟩, hx3⟩; have HX3 : Hid (Nx w1 w3) := HX2.out.trans hx3; have HR3 : Hid (OwnR w1.heap.size w1.heap.size w3 vr (resOf N).rules) := (by unfold Hid; rw [HF.out]; exact hR3.base HX2.out.size HX2.out.size); have HD3 : Hid (OwnD w1.heap.size w3 vd (resOf N).drops) := (by unfold Hid; rw [HF.out]; exact row_base hD3 HX2.out.size); obtain ⟨vs3, jv, jr, jw⟩ := hR3; obtain ⟨ar, cr, hvr⟩ := row_slice jr; obtain ⟨ad, cd, hvd⟩ := row_slice hD3; generalize (resTo (chOf N (roadY N)) N.rels N.rels.length).rules.length = nr at hvr; generalize (resTo (chOf N (roadY N)) N.rels N.rels.length).drops.length = nd at hvd; subst hvr hvd; have BZ3 : Hid (Blk w3 (w.heap.size + 1) #[.slice none 0 0, .slice none 0 0]) := BZ1.out.next HX3.out; have y0 := BZ3.out.cell (i := 0) rfl; have y1 := BZ3.out.cell (i := 1) rfl; have z0 := BZ3.out.frozen 0; have z1 := BZ3.out.frozen 1; clear jv jr jw hD3 hx3))
  have BR' := (BZ3.out.set 0 (.slice ar nr cr)).set 1 (.slice ad nd cd)
  have p0 : _ = some (Value.slice ar nr cr) := BR'.cell (i := 0) rfl
  have p1 : _ = some (Value.slice ad nd cd) := BR'.cell (i := 1) rfl
  clear y0 y1 BR' k0 k1 k2 k3 k4
  go_wp2
  refine bodyPost_ret (v := .agg #[.slice ar nr cr, .slice ad nd cd]) (by simp [results, Tryz.results6, go_sem, p0, p1]) rfl ?_
  have h1 : w.heap.size + 1 < w1.heap.size := by have := HSA.out; have := HXA1.out.size; omega
  have h2 : w.heap.size ≤ w1.heap.size := by omega
  exact ⟨⟨_, _, rfl, ((HR3.out.store h1 h1 _ _).store h1 h1 _ _).base h2 h2, row_base (own_store (own_store HD3.out h1 _ _) h1 _ _) h2⟩, Below.setCell (Below.setCell (HX1.out.trans HX3.out) (Nat.le_succ _) _) (Nat.le_succ _) _⟩
end Go.Proofs.YtcdjmpbdaiafgaaGreatDoor

namespace Go.Proofs.YtcdjmpbdaiafgaaGreatDoor
open Go.RowKit Go.Sort
set_option linter.unusedVariables false
set_option maxRecDepth 100000

/-- an edge that is linked: its own cells and its number -/
structure EB (w : World) (b e : Nat) (x : Eg) : Prop where
  tail : w.cell? ⟨b, 0, none⟩ = some (.int .i64 x.tail)
  head : w.cell? ⟨b, 1, none⟩ = some (.int .i64 x.head)
  wgt : w.cell? ⟨b, 2, none⟩ = some (.int .i64 x.weight)
  back : w.cell? ⟨b, 5, none⟩ = some (.bool x.back)
  twin : w.cell? ⟨b, 6, none⟩ = some (.int .i64 x.twin)
  num : w.cell? ⟨b, 7, none⟩ = some (.int .i64 (e : Int))
theorem EB.next {w w' : World} {b e : Nat} {x : Eg} (h : EB w b e x) (k : Nx w w') : EB w' b e x :=
  ⟨cellq k h.tail, cellq k h.head, cellq k h.wgt, cellq k h.back, cellq k h.twin, cellq k h.num⟩
/-- a row of pointers -/
def HPtrs (B : Nat) (w : World) (v : Value) (ps : List Nat) : Prop := HSlice B w v ps.length fun b off i => w.cell? ⟨b, off + i, none⟩ = some (.pointer (some ⟨ps.getD i 0, 0, none⟩))
theorem HPtrs.keep {B : Nat} {w w' : World} {v : Value} {ps : List Nat} (h : HPtrs B w v ps) (k : Keeps B w w') : HPtrs B w' v ps :=
  HSlice.mono h (Nat.le_refl _) k.1 fun b off hb hs i hi hc => (k.2 b hb hs _).trans hc
theorem HPtrs.next {B : Nat} {w w' : World} {v : Value} {ps : List Nat} (h : HPtrs B w v ps) (k : Nx w w') : HPtrs B w' v ps := h.keep (k.keeps B)
theorem HPtrs.at {B : Nat} {w : World} {v : Value} {eb : Nat → Nat} {l : List Nat} (h : HPtrs B w v (l.map eb)) (hp : 0 < l.length) : ∃ b off c, v = .slice (some ⟨b, off, none⟩) l.length c ∧ b < w.heap.size ∧ ∀ i, i < l.length → w.cell? ⟨b, off + i, none⟩ = some (.pointer (some ⟨eb (l.getD i 0), 0, none⟩)) := by
  obtain ⟨a, cap, e, _, hk⟩ := h
  rw [List.length_map] at e hk
  obtain ⟨b, off, rfl, _, hb, hc⟩ := hk hp
  refine ⟨b, off, cap, e, hb, fun i hi => ?_⟩
  have := hc i hi
  rw [this]
  simp [List.getD_eq_getElem?_getD, hi]
theorem take_getD {l : List Nat} {k : Nat} (h : k < l.length) : l.take (k + 1) = l.take k ++ [l.getD k 0] := by
  rw [List.take_succ_eq_append_getElem h]
  simp [List.getD_eq_getElem?_getD, h]

set_option maxHeartbeats 8000000 in
theorem stretchOf_any (B : Nat) (v : Value) (es : List Eg) (eb : Nat → Nat) (l : List Nat) (w : World) (h0 : HPtrs B w v (l.map eb)) (hl : l ≠ []) (hlen : l.length ≤ 4000) (he : ∀ e ∈ l, EB w (eb e) e (eat es e)) :
    Calls Tryz.prog 103 #[v] w fun e w' => (∃ u, e = .returned (.agg #[.int .i64 (tlL es l), .int .i64 (hdL es l), u]) ∧ OwnI w.heap.size w' u (nums l)) ∧ Nx w w' := by
  obtain ⟨ii, hi, hz0, hz1, hz2⟩ := info_parts infoInt
  have HE : Hid (∀ e ∈ l, EB w (eb e) e (eat es e)) := he
  have hpos : 0 < l.length := List.length_pos_iff.2 hl
  obtain ⟨b, off, c, rfl, hb, hc⟩ := h0.at hpos
  have HC : Hid (∀ i, i < l.length → w.cell? ⟨b, off + i, none⟩ = some (.pointer (some ⟨eb (l.getD i 0), 0, none⟩))) := hc
  obtain ⟨lm, hlm⟩ : ∃ lm, l.length = lm + 1 := ⟨l.length - 1, by omega⟩
  have hmem : ∀ i, i < l.length → l.getD i 0 ∈ l := fun i hi => by
    have : l.getD i 0 = l[i] := by simp [List.getD_eq_getElem?_getD, hi]
    rw [this]; exact List.getElem_mem hi
  have HMEM : Hid (∀ i, i < l.length → l.getD i 0 ∈ l) := hmem
  have x0 := hc 0 hpos
  have x1 := hc lm (by omega)
  have t0 := (he _ (hmem 0 hpos)).tail
  have t1 := (he _ (hmem lm (by omega))).head
  have HTL : Hid (tlL es l = (eat es (l.getD 0 0)).tail) := by
    unfold Hid tlL
    cases l with
    | nil => exact absurd rfl hl
    | cons a l => rfl
  have HHD : Hid (hdL es l = (eat es (l.getD lm 0)).head) := by
    unfold Hid hdL
    rw [List.getLastD_eq_getLast?, List.getLast?_eq_getElem?, List.getD_eq_getElem?_getD, hlm]
    rfl
  rw [← HTL.out] at t0
  rw [← HHD.out] at t1
  generalize tlL es l = T at *
  generalize hdL es l = H at *
  generalize eb (l.getD 0 0) = e0 at *
  generalize eb (l.getD lm 0) = e1 at *
  have HLN : Hid (l.length = lm + 1) := hlm
  have hlm4 : lm ≤ 4000 := by omega
  have hlm' : (lm : Int) < (lm : Int) + 1 := by omega
  have hz : (0 : Int) < (lm : Int) + 1 := by omega
  have hlm0 : (0 : Int) ≤ (lm : Int) := by omega
  have hwj := wrapJ lm (by omega)
  rw [hlm]
  simp only [Nat.add_zero] at x0
  clear hc he hmem hlm hpos hl h0
  generalize hW0 : w.alloc (.cells #[.int .i64 0, .int .i64 0, .slice none 0 0] 160) = w0
  have HX0 : Hid (Nx w w0) := by unfold Hid; rw [← hW0]; exact box1 _ _
  have HB0 : Hid (Blk w0 w.heap.size #[.int .i64 0, .int .i64 0, .slice none 0 0]) := by unfold Hid; rw [← hW0]; exact Blk.new w _ _ _ rfl
  have HZ0 : Hid (w0.heap.size = w.heap.size + 1) := by unfold Hid; rw [← hW0]; exact size_alloc' _ _
  go_enter Tryz.func103, Tryz.ntmps103
  go_upto_region 1 with fail
  clear hW0
  have y0 := cellq HX0.out x0
  have y1 := cellq HX0.out x1
  have y2 := cellq HX0.out t0
  have y3 := cellq HX0.out t1
  clear x0 x1 t0 t1
  go_cut [3] from 6 to 24 (fun s3 wc => Hid (s3 = .pointer (some ⟨w0.heap.size, 0, none⟩)) ∧ Hid (Nx w0 wc) ∧ Hid (Blk wc w0.heap.size #[.int .i64 T, .int .i64 H, .slice none 0 0]))
  case first =>
    go_region_held3 (fun w' => w'.cell? ⟨b, off, none⟩ = some (.pointer (some ⟨e0, 0, none⟩)) ∧ w'.cell? ⟨b, off + lm, none⟩ = some (.pointer (some ⟨e1, 0, none⟩)) ∧ w'.cell? ⟨e0, 0, none⟩ = some (.int .i64 T) ∧ w'.cell? ⟨e1, 1, none⟩ = some (.int .i64 H)) (go_keep) (fail)
    all_goals go_wp2
    all_goals go_meet
    all_goals exact ⟨rfl, (box1 _ _).drew, (Blk.new _ _ _ _ rfl).drew⟩
  case rest =>
  obtain ⟨hs3, HXc, HBc⟩ := hcut
  have hs3' := hs3.out
  subst hs3'
  clear hs3 y0 y1 y2 y3
  have HCc : Hid (w0.heap.size < wc.heap.size) := HBc.out.lt
  generalize w0.heap.size = bo at *
  go_wp2
  go_loopw [26] (fun i wr => ∃ (k : Nat) (u : Value), k ≤ lm + 1 ∧ i = .int .i64 k ∧ Hid (Blk wr bo #[.int .i64 T, .int .i64 H, u]) ∧ Hid (OwnI wc.heap.size wr u (nums (l.take k))) ∧ Hid (Only (some bo) wc wr)) (fun i _ => lm + 1 - (intOf i).toNat)
  case atStart => exact ⟨0, .slice none 0 0, Nat.zero_le _, rfl, HBc, ⟨rfl, Or.inl ⟨rfl, rfl⟩⟩, Only.refl _ _⟩
  obtain ⟨k, u, hkm, rfl, HBX, HO, HON⟩ := hrel
  have HXw : Hid (Nx w wc) := HX0.out.trans HXc.out
  have HBW : Hid (Below w.heap.size w wr) := Below.trans HXw.out (HON.out.below (by intro g hg; cases hg; have := HZ0.out; omega) HXw.out.size)
  by_cases hlt : k < lm + 1
  case neg =>
    have ek : lm + 1 = k := by omega
    subst ek
    obtain ⟨ua, uc, hue⟩ := HO.out.slice
    have HTK : Hid (l.take (lm + 1) = l) := by unfold Hid; rw [← HLN.out, List.take_length]
    generalize (nums (l.take (lm + 1))).length = ul at hue
    subst hue
    have HF : Hid (OwnI wc.heap.size wr (.slice ua ul uc) (nums l)) := by have := HO.out; rw [HTK.out] at this; exact this
    have BZ := HON.out.blk (HB0.out.next HXc.out) (by intro e; have := Option.some.inj e; have := HZ0.out; omega)
    have x0 := HBX.out.cell (i := 0) rfl
    have x1 := HBX.out.cell (i := 1) rfl
    have x2 := HBX.out.cell (i := 2) rfl
    have y0 := BZ.cell (i := 0) rfl
    have y1 := BZ.cell (i := 1) rfl
    have y2 := BZ.cell (i := 2) rfl
    have z0 := BZ.frozen 0
    have z1 := BZ.frozen 1
    have z2 := BZ.frozen 2
    have BR' := ((BZ.set 0 (.int .i64 T)).set 1 (.int .i64 H)).set 2 (.slice ua ul uc)
    have p0 : _ = some (Value.int .i64 T) := BR'.cell (i := 0) rfl
    have p1 : _ = some (Value.int .i64 H) := BR'.cell (i := 1) rfl
    have p2 : _ = some (Value.slice ua ul uc) := BR'.cell (i := 2) rfl
    clear BR' hlt hkm
    go_wp2
    refine bodyPost_ret (v := .agg #[.int .i64 T, .int .i64 H, .slice ua ul uc]) (by simp [results, Tryz.results103, go_sem, p0, p1, p2]) rfl ?_
    have h1 : w.heap.size < wc.heap.size := by have := HZ0.out; have := HCc.out; omega
    exact ⟨⟨_, rfl, OwnI.base (own_store (own_store (own_store HF.out h1 _ _) h1 _ _) h1 _ _) (Nat.le_of_lt h1)⟩, Below.setCell (Below.setCell (Below.setCell HBW.out (Nat.le_refl _) _) (Nat.le_refl _) _) (Nat.le_refl _) _⟩
  have hlt' : (k : Int) < (lm : Int) + 1 := by omega
  have hk0 : (0 : Int) ≤ (k : Int) := by omega
  have c0 := cell_next HBW.out hb (HC.out k (by rw [HLN.out]; exact hlt))
  have HES : Hid (nums (l.take (k + 1)) = nums (l.take k) ++ [((l.getD k 0 : Nat) : Int)]) := by unfold Hid; rw [take_getD (by rw [HLN.out]; exact hlt), nums_snoc]
  have HEX := HE.out _ (HMEM.out k (by rw [HLN.out]; exact hlt))
  have c1 := cell_next HBW.out (cell_lt HEX.num) HEX.num
  have hebl := cell_lt HEX.num
  clear HEX
  generalize l.getD k 0 = x at *
  obtain ⟨ua, uc, hue⟩ := HO.out.slice
  have HLK : Hid ((nums (l.take k)).length = k) := by unfold Hid; rw [nums_len, List.length_take, HLN.out]; omega
  rw [HLK.out] at hue
  subst hue
  have c2 := HBX.out.cell (i := 2) rfl
  have HCW : Hid (wc.heap.size ≤ wr.heap.size) := HON.out.size
  have HNB : Hid (eb x < w.heap.size ∧ w.heap.size < bo + 1 ∧ bo < wc.heap.size) := ⟨hebl, by have := HZ0.out; omega, HCc.out⟩
  have hmx : Tryz.prog.follows .mixedOrders = true := by kernel_rfl
  go_upto_region 5 with fail
  refine (wpIn_wide (n := 9)).1 ?_
  have HS0 : Hid ((fun w => w.cell? ⟨bo, 2, none⟩ = some (.slice ua k uc) ∧ w.cell? ⟨eb x, 7, none⟩ = some (.int .i64 (x : Int))) wr.drew) := ⟨c2, c1⟩
  refine wpIn_region_S (c := 9) (S := fun w => w.cell? ⟨bo, 2, none⟩ = some (.slice ua k uc) ∧ w.cell? ⟨eb x, 7, none⟩ = some (.int .i64 (x : Int))) hmx (by kernel_rfl) (fun hw hcl => ?_)
  refine anyS_take (i := 0) (v := .pointer (some ⟨bo, 2, none⟩)) hw (by decide) hcl (noDefer_none rfl) rfl (by kernel_rfl) (by kernel_rfl) (by kernel_rfl) (fun _ _ _ h => h) ⟨Or.inl ⟨by rfl, ?y0⟩, fun _ => rfl⟩ HS0.out (fun hcl => ?_)
  case y0 =>
    rintro w ⟨c3, c4⟩
    go_simp
  refine anyS_take (i := 1) (v := .slice ua k uc) hw (by decide) hcl (noDefer_none rfl) rfl (by kernel_rfl) (by kernel_rfl) (by kernel_rfl) (fun _ _ _ h => h) ⟨Or.inl ⟨by rfl, ?y1⟩, fun _ => rfl⟩ HS0.out (fun hcl => ?_)
  case y1 =>
    rintro w ⟨c3, c4⟩
    go_simp
  refine anyS_take (i := 2) (v := .pointer (some ⟨eb x, 0, none⟩)) hw (by decide) hcl (noDefer_none rfl) rfl (by kernel_rfl) (by kernel_rfl) (by kernel_rfl) (fun _ _ _ h => h) ⟨Or.inl ⟨by rfl, ?y2⟩, fun _ => rfl⟩ HS0.out (fun hcl => ?_)
  case y2 =>
    rintro w ⟨c3, c4⟩
    go_simp
  refine anyS_take (i := 3) (v := .pointer (some ⟨eb x, 0, none⟩)) hw (by decide) hcl (noDefer_none rfl) rfl (by kernel_rfl) (by kernel_rfl) (by kernel_rfl) (fun _ _ _ h => h) ⟨Or.inl ⟨by rfl, ?y3⟩, fun _ => rfl⟩ HS0.out (fun hcl => ?_)
  case y3 =>
    rintro w ⟨c3, c4⟩
    go_simp
  refine anyS_take (i := 4) (v := .pointer (some ⟨eb x, 7, none⟩)) hw (by decide) hcl (noDefer_none rfl) rfl (by kernel_rfl) (by kernel_rfl) (by kernel_rfl) (fun _ _ _ h => h) ⟨Or.inl ⟨by rfl, ?y4⟩, fun _ => rfl⟩ HS0.out (fun hcl => ?_)
  case y4 =>
    rintro w ⟨c3, c4⟩
    go_simp
  refine anyS_take (i := 5) (v := .int .i64 (x : Int)) hw (by decide) hcl (noDefer_none rfl) rfl (by kernel_rfl) (by kernel_rfl) (by kernel_rfl) (fun _ _ _ h => h) ⟨Or.inl ⟨by rfl, ?y5⟩, fun _ => rfl⟩ HS0.out (fun hcl => ?_)
  case y5 =>
    rintro w ⟨c3, c4⟩
    go_simp
  refine anyS_one (i := 6) (by kernel_rfl) (wpOpIn_step rfl (fun K hK => ?_))
  go_simp
  refine hK _ _ ⟨Or.inr ⟨cellq (box1 _ _) c2, cellq (box1 _ _) c1⟩, ?_⟩
  clear hK K
  refine anyS_one (i := 7) (by kernel_rfl) (wpOpIn_step rfl (fun K hK => ?_))
  refine step_append_in rfl (.tmp 31) (.tmp 36) 22 rfl 2 ii (.int .i64 0) 1 8 Tryz.underlying22 hi hz0 hz1 hz2 rfl (by decide) wc.heap.size (.slice ua k uc) _ _ (by simp [Act.eval]) (show (wr.drew.alloc (.cells #[.int .i64 (x : Int)] 2)).ownsRow _ _ _ _ _ _ from World.ownsRow.alloc HO.out _) ⟨wr.heap.size, 0, none⟩ 1 1 [.int .i64 (x : Int)] (by simp [Act.eval]) rfl (fun j u hj => new_cells wr.drew _ _ _ rfl j u hj) (by intro u hu; simp at hu; subst hu; rfl) (by rw [HLK.out]; unfold maxLen; omega) (by rw [HLK.out]; omega) (by show wc.heap.size ≤ (wr.drew.alloc (.cells #[.int .i64 (x : Int)] 2)).heap.size; rw [size_alloc']; have := HCW.out; show wc.heap.size ≤ wr.heap.size + 1; omega) ?_
  intro v7 w7 hown hgrow1 hat7
  have hgrow : (wr.alloc (.cells #[.int .i64 (x : Int)] 2)).grownBy w7 (Value.slice ua k uc).ownBlock := ⟨hgrow1.os, hgrow1.tape, hgrow1.output, hgrow1.size, hgrow1.block⟩
  have BX7 := (HBX.out.alloc (.cells #[.int .i64 (x : Int)] 2)).grown hgrow (fun e => by have := (own_lt HO.out _ e.symm).1; have := HNB.out; omega)
  have x7 := BX7.cell (i := 2) rfl
  have f7 := BX7.frozen 2
  have s1 : w7.cell? ⟨eb x, 7, none⟩ = some (.int .i64 (x : Int)) := cellX hgrow (cellq (box1 _ _) c1) (fun e => by have := (own_lt HO.out _ e.symm).1; have := HNB.out; omega)
  have HO7 : Hid (OwnI wc.heap.size (w7.setCell ⟨bo, 2, none⟩ v7) v7 (nums (l.take (k + 1)))) := by unfold Hid; rw [HES.out]; exact own_store (OwnI.snoc hown) HCc.out 2 _
  have HB7 : Hid (Blk (w7.setCell ⟨bo, 2, none⟩ v7) bo #[.int .i64 T, .int .i64 H, v7]) := BX7.set 2 v7
  have HN7 : Hid (Only (some bo) wc (w7.setCell ⟨bo, 2, none⟩ v7)) := Only.app HON.out hgrow (fun g e => (own_lt HO.out g e).1) _
  obtain ⟨a7', c7', hv7⟩ := row_slice hown
  subst hv7
  refine hK _ _ ⟨Or.inr ⟨x7, s1⟩, ?_⟩
  clear hK K hown hgrow hgrow1 hat7 BX7
  refine anyS_one (i := 8) (by kernel_rfl) (wpOpIn_step rfl (fun K hK => ?_))
  go_simp
  refine hK _ _ ⟨Or.inr ⟨x7, s1⟩, ?_⟩
  clear hK K s1
  refine anyS_one (i := 9) (by kernel_rfl) (wpOpIn_step rfl (fun K hK => ?_))
  go_simp
  refine hK _ _ ⟨Or.inl (by decide), ?_⟩
  clear hK K
  refine anyS_done (by kernel_rfl) ?_ _
  clear hw hcl HS0 c0 c1 c2 x7 f7
  go_wp2
  go_roundw
  case rel => exact ⟨k + 1, _, by omega, by go_num, HB7, HO7, HN7⟩
  case measure => simp [intOf]; omega
end Go.Proofs.YtcdjmpbdaiafgaaGreatDoor

namespace Go.Proofs.YtcdjmpbdaiafgaaGreatDoor
open Go.RowKit Go.Sort
set_option linter.unusedVariables false
set_option maxRecDepth 100000

set_option maxHeartbeats 2000000 in
theorem fitEnd_any (b bm e : Nat) (x : Eg) (T : Int) (w : World) (he : EB w b e x) (hm : w.cell? ⟨bm, 0, none⟩ = some (.int .i64 T)) :
    Calls Tryz.prog 108 #[.pointer (some ⟨b, 0, none⟩), .pointer (some ⟨bm, 0, none⟩)] w fun e w' => e = .returned (.bool (x.head == T)) ∧ Nx w w' := by
  have x0 := he.head
  clear he
  go_enter Tryz.func108, Tryz.ntmps108
  go_wp2
  go_quiet (fail)
  go_wp2
  go_ret
  exact ⟨rfl, nx_drewN _ _⟩

set_option maxHeartbeats 2000000 in
theorem fitStart_any (b bm e : Nat) (x : Eg) (T : Int) (w : World) (he : EB w b e x) (hm : w.cell? ⟨bm, 1, none⟩ = some (.int .i64 T)) :
    Calls Tryz.prog 109 #[.pointer (some ⟨b, 0, none⟩), .pointer (some ⟨bm, 0, none⟩)] w fun e w' => e = .returned (.bool (x.tail == T)) ∧ Nx w w' := by
  have x0 := he.tail
  clear he
  go_enter Tryz.func109, Tryz.ntmps109
  go_wp2
  go_quiet (fail)
  go_wp2
  go_ret
  exact ⟨rfl, nx_drewN _ _⟩

set_option maxHeartbeats 8000000 in
theorem pickEnd_any (B : Nat) (bw bm : Nat) (v : Value) (es : List Eg) (eb : Nat → Nat) (l : List Nat) (T : Int) (w : World) (hv : w.cell? ⟨bw, 1, none⟩ = some v) (h0 : HPtrs B w v (l.map eb)) (hlen : l.length ≤ 4000) (he : ∀ e ∈ l, EB w (eb e) e (eat es e)) (hm : w.cell? ⟨bm, 0, none⟩ = some (.int .i64 T)) :
    Calls Tryz.prog 107 #[.pointer (some ⟨bw, 0, none⟩), .func (.func 108) #[] #[.pointer (some ⟨bm, 0, none⟩)]] w fun e w' => (∃ u, e = .returned u ∧ OwnI w.heap.size w' u (nums (l.filter (fun e => decide ((eat es e).head = T))))) ∧ Nx w w' := by
  obtain ⟨ii, hi, hz0, hz1, hz2⟩ := info_parts infoInt
  have HE : Hid (∀ e ∈ l, EB w (eb e) e (eat es e)) := he
  have HM : Hid (w.cell? ⟨bm, 0, none⟩ = some (.int .i64 T)) := hm
  have HP : Hid (HPtrs B w v (l.map eb)) := h0
  obtain ⟨a, cap, rfl, jm, jk⟩ := h0
  rw [List.length_map] at hv
  clear jm jk he hm
  simp only [List.length_map] at HP ⊢
  generalize hln : l.length = n at *
  have HLN : Hid (l.length = n) := hln
  clear hln
  go_enter Tryz.func107, Tryz.ntmps107
  go_wp2
  go_loopw [5, 13] (fun u i wr => ∃ k : Nat, k ≤ n ∧ i = .int .i64 k ∧ Hid (OwnI w.heap.size wr u (nums ((l.take k).filter (fun e => decide ((eat es e).head = T))))) ∧ Hid (Nx w wr)) (fun _ i _ => n - (intOf i).toNat)
  case atStart => exact ⟨0, Nat.zero_le _, rfl, ⟨rfl, Or.inl ⟨rfl, rfl⟩⟩, Below.refl _ _⟩
  obtain ⟨k, hkm, rfl, HO, HN⟩ := hrel
  by_cases hlt : k < n
  case neg =>
    have ek : n = k := by omega
    subst ek
    have HF : Hid (OwnI w.heap.size wr u5 (nums (l.filter (fun e => decide ((eat es e).head = T))))) := by have := HO.out; rw [← HLN.out, List.take_length] at this; exact this
    clear hlt hkm HO
    go_wp2
    go_ret
    exact ⟨⟨_, rfl, HF.out⟩, HN.out⟩
  have hlt' : (k : Int) < n := by omega
  have HKL : Hid (k < l.length) := by unfold Hid; rw [HLN.out]; exact hlt
  obtain ⟨b, off, c, hae, hb, hc⟩ := HP.out.at (by have := HKL.out; omega)
  simp only [Value.slice.injEq] at hae
  obtain ⟨rfl, jl, rfl⟩ := hae
  have c0 := cellq HN.out (hc k HKL.out)
  have HEX : Hid (EB w (eb (l.getD k 0)) (l.getD k 0) (eat es (l.getD k 0))) := HE.out _ (by rw [show l.getD k 0 = l[k]'HKL.out by simp [List.getD_eq_getElem?_getD, HKL.out]]; exact List.getElem_mem _)
  have HYES : Hid ((eat es (l.getD k 0)).head = T → nums ((l.take (k + 1)).filter (fun e => decide ((eat es e).head = T))) = nums ((l.take k).filter (fun e => decide ((eat es e).head = T))) ++ [((l.getD k 0 : Nat) : Int)]) := fun h => by rw [take_getD HKL.out, List.filter_append, ← nums_snoc]; simp only [List.filter_cons, h, decide_true, if_true, List.filter_nil]
  have HNO : Hid ((eat es (l.getD k 0)).head ≠ T → (l.take (k + 1)).filter (fun e => decide ((eat es e).head = T)) = (l.take k).filter (fun e => decide ((eat es e).head = T))) := fun h => by rw [take_getD HKL.out, List.filter_append]; simp only [List.filter_cons, decide_eq_false h, Bool.false_eq_true, if_false, List.filter_nil, List.append_nil]
  have HLK : Hid ((nums ((l.take k).filter (fun e => decide ((eat es e).head = T)))).length ≤ 4000) := by
    unfold Hid
    rw [nums_len]
    have h1 := List.length_filter_le (fun e => decide ((eat es e).head = T)) (l.take k)
    have h2 : (l.take k).length ≤ l.length := by rw [List.length_take]; omega
    have := HLN.out
    omega
  clear hc jl
  generalize l.getD k 0 = x at *
  go_wp2_with fail
  refine (fitEnd_any (eb x) bm x (eat es x) T _ (HEX.out.next HN.out) (cellq HN.out HM.out)).mono ?_
  rintro e w4 ⟨rfl, hx4⟩
  have HX4 : Hid (Nx wr w4) := hx4
  clear hx4
  by_cases hf : (eat es x).head = T
  case neg =>
    have g1 : ((eat es x).head == T) = false := by simpa using hf
    rw [g1]
    have HE2 := HNO.out hf
    have HE3 : Hid ((l.take (k + 1)).filter (fun e => decide ((eat es e).head = T)) = (l.take k).filter (fun e => decide ((eat es e).head = T))) := HE2
    clear hf HE2 g1
    go_wp2
    go_roundw
    case rel => exact ⟨k + 1, by omega, by go_num, by unfold Hid; rw [HE3.out]; exact HO.out.next HX4.out, HN.out.trans HX4.out⟩
    case measure => simp [intOf]; omega
  have g1 : ((eat es x).head == T) = true := by simpa using hf
  rw [g1]
  have HES : Hid (nums ((l.take (k + 1)).filter (fun e => decide ((eat es e).head = T))) = nums ((l.take k).filter (fun e => decide ((eat es e).head = T))) ++ [(x : Int)]) := HYES.out hf
  have c1 := (HEX.out.next (HN.out.trans HX4.out)).num
  have HO4 : Hid (OwnI w.heap.size w4 u5 (nums ((l.take k).filter (fun e => decide ((eat es e).head = T))))) := HO.out.next HX4.out
  have HN4 : Hid (Nx w w4) := HN.out.trans HX4.out
  clear hf g1 HO HN
  generalize nums ((l.take k).filter (fun e => decide ((eat es e).head = T))) = zs at *
  obtain ⟨ua, uc, hue⟩ := HO4.out.slice
  subst hue
  generalize hzl : zs.length = zl at *
  have HZL : Hid (zs.length = zl) := hzl
  have hzl4 : zl ≤ 4000 := HLK.out
  have HS4 : Hid (w.heap.size ≤ w4.heap.size) := HN4.out.size
  clear hzl
  go_wp2_with (at_builtin; refine wpList_append_own_at _ rfl _ _ 22 rfl w.heap.size 2 ii (.int .i64 0) 1 8 Tryz.underlying22 hi hz0 hz1 hz2 rfl (by decide) _ _ _ rfl (World.ownsRow.alloc HO4.out _) ⟨w4.heap.size, 0, none⟩ 1 1 [.int .i64 (x : Int)] rfl rfl ?f1 ?f2 ?f3 ?f4 ?f5 ?_)
  case f1 => intro j u hj; exact new_cells _ _ _ _ rfl j u hj
  case f2 => intro u hu; simp at hu; subst hu; rfl
  case f3 => rw [HZL.out]; unfold maxLen; omega
  case f4 => rw [HZL.out]; omega
  case f5 => rw [size_alloc']; have := HS4.out; omega
  intro v7 w7 hown hgrow _ hat7
  have HO7 : Hid (OwnI w.heap.size w7 v7 (nums ((l.take (k + 1)).filter (fun e => decide ((eat es e).head = T))))) := by unfold Hid; rw [HES.out]; exact OwnI.snoc hown
  have HN7 : Hid (Nx w w7) := Below.grown (HN4.out.alloc _) hgrow (by rw [size_alloc']; have := HS4.out; omega) (fun g hg => (own_lt HO4.out g hg).1)
  clear hown hgrow hat7 c0 c1
  go_wp2
  go_roundw
  case rel => exact ⟨k + 1, by omega, by go_num, HO7, HN7⟩
  case measure => simp [intOf]; omega

set_option maxHeartbeats 8000000 in
theorem pickStart_any (B : Nat) (bw bm : Nat) (v : Value) (es : List Eg) (eb : Nat → Nat) (l : List Nat) (T : Int) (w : World) (hv : w.cell? ⟨bw, 1, none⟩ = some v) (h0 : HPtrs B w v (l.map eb)) (hlen : l.length ≤ 4000) (he : ∀ e ∈ l, EB w (eb e) e (eat es e)) (hm : w.cell? ⟨bm, 1, none⟩ = some (.int .i64 T)) :
    Calls Tryz.prog 107 #[.pointer (some ⟨bw, 0, none⟩), .func (.func 109) #[] #[.pointer (some ⟨bm, 0, none⟩)]] w fun e w' => (∃ u, e = .returned u ∧ OwnI w.heap.size w' u (nums (l.filter (fun e => decide ((eat es e).tail = T))))) ∧ Nx w w' := by
  obtain ⟨ii, hi, hz0, hz1, hz2⟩ := info_parts infoInt
  have HE : Hid (∀ e ∈ l, EB w (eb e) e (eat es e)) := he
  have HM : Hid (w.cell? ⟨bm, 1, none⟩ = some (.int .i64 T)) := hm
  have HP : Hid (HPtrs B w v (l.map eb)) := h0
  obtain ⟨a, cap, rfl, jm, jk⟩ := h0
  rw [List.length_map] at hv
  clear jm jk he hm
  simp only [List.length_map] at HP ⊢
  generalize hln : l.length = n at *
  have HLN : Hid (l.length = n) := hln
  clear hln
  go_enter Tryz.func107, Tryz.ntmps107
  go_wp2
  go_loopw [5, 13] (fun u i wr => ∃ k : Nat, k ≤ n ∧ i = .int .i64 k ∧ Hid (OwnI w.heap.size wr u (nums ((l.take k).filter (fun e => decide ((eat es e).tail = T))))) ∧ Hid (Nx w wr)) (fun _ i _ => n - (intOf i).toNat)
  case atStart => exact ⟨0, Nat.zero_le _, rfl, ⟨rfl, Or.inl ⟨rfl, rfl⟩⟩, Below.refl _ _⟩
  obtain ⟨k, hkm, rfl, HO, HN⟩ := hrel
  by_cases hlt : k < n
  case neg =>
    have ek : n = k := by omega
    subst ek
    have HF : Hid (OwnI w.heap.size wr u5 (nums (l.filter (fun e => decide ((eat es e).tail = T))))) := by have := HO.out; rw [← HLN.out, List.take_length] at this; exact this
    clear hlt hkm HO
    go_wp2
    go_ret
    exact ⟨⟨_, rfl, HF.out⟩, HN.out⟩
  have hlt' : (k : Int) < n := by omega
  have HKL : Hid (k < l.length) := by unfold Hid; rw [HLN.out]; exact hlt
  obtain ⟨b, off, c, hae, hb, hc⟩ := HP.out.at (by have := HKL.out; omega)
  simp only [Value.slice.injEq] at hae
  obtain ⟨rfl, jl, rfl⟩ := hae
  have c0 := cellq HN.out (hc k HKL.out)
  have HEX : Hid (EB w (eb (l.getD k 0)) (l.getD k 0) (eat es (l.getD k 0))) := HE.out _ (by rw [show l.getD k 0 = l[k]'HKL.out by simp [List.getD_eq_getElem?_getD, HKL.out]]; exact List.getElem_mem _)
  have HYES : Hid ((eat es (l.getD k 0)).tail = T → nums ((l.take (k + 1)).filter (fun e => decide ((eat es e).tail = T))) = nums ((l.take k).filter (fun e => decide ((eat es e).tail = T))) ++ [((l.getD k 0 : Nat) : Int)]) := fun h => by rw [take_getD HKL.out, List.filter_append, ← nums_snoc]; simp only [List.filter_cons, h, decide_true, if_true, List.filter_nil]
  have HNO : Hid ((eat es (l.getD k 0)).tail ≠ T → (l.take (k + 1)).filter (fun e => decide ((eat es e).tail = T)) = (l.take k).filter (fun e => decide ((eat es e).tail = T))) := fun h => by rw [take_getD HKL.out, List.filter_append]; simp only [List.filter_cons, decide_eq_false h, Bool.false_eq_true, if_false, List.filter_nil, List.append_nil]
  have HLK : Hid ((nums ((l.take k).filter (fun e => decide ((eat es e).tail = T)))).length ≤ 4000) := by
    unfold Hid
    rw [nums_len]
    have h1 := List.length_filter_le (fun e => decide ((eat es e).tail = T)) (l.take k)
    have h2 : (l.take k).length ≤ l.length := by rw [List.length_take]; omega
    have := HLN.out
    omega
  clear hc jl
  generalize l.getD k 0 = x at *
  go_wp2_with fail
  refine (fitStart_any (eb x) bm x (eat es x) T _ (HEX.out.next HN.out) (cellq HN.out HM.out)).mono ?_
  rintro e w4 ⟨rfl, hx4⟩
  have HX4 : Hid (Nx wr w4) := hx4
  clear hx4
  by_cases hf : (eat es x).tail = T
  case neg =>
    have g1 : ((eat es x).tail == T) = false := by simpa using hf
    rw [g1]
    have HE2 := HNO.out hf
    have HE3 : Hid ((l.take (k + 1)).filter (fun e => decide ((eat es e).tail = T)) = (l.take k).filter (fun e => decide ((eat es e).tail = T))) := HE2
    clear hf HE2 g1
    go_wp2
    go_roundw
    case rel => exact ⟨k + 1, by omega, by go_num, by unfold Hid; rw [HE3.out]; exact HO.out.next HX4.out, HN.out.trans HX4.out⟩
    case measure => simp [intOf]; omega
  have g1 : ((eat es x).tail == T) = true := by simpa using hf
  rw [g1]
  have HES : Hid (nums ((l.take (k + 1)).filter (fun e => decide ((eat es e).tail = T))) = nums ((l.take k).filter (fun e => decide ((eat es e).tail = T))) ++ [(x : Int)]) := HYES.out hf
  have c1 := (HEX.out.next (HN.out.trans HX4.out)).num
  have HO4 : Hid (OwnI w.heap.size w4 u5 (nums ((l.take k).filter (fun e => decide ((eat es e).tail = T))))) := HO.out.next HX4.out
  have HN4 : Hid (Nx w w4) := HN.out.trans HX4.out
  clear hf g1 HO HN
  generalize nums ((l.take k).filter (fun e => decide ((eat es e).tail = T))) = zs at *
  obtain ⟨ua, uc, hue⟩ := HO4.out.slice
  subst hue
  generalize hzl : zs.length = zl at *
  have HZL : Hid (zs.length = zl) := hzl
  have hzl4 : zl ≤ 4000 := HLK.out
  have HS4 : Hid (w.heap.size ≤ w4.heap.size) := HN4.out.size
  clear hzl
  go_wp2_with (at_builtin; refine wpList_append_own_at _ rfl _ _ 22 rfl w.heap.size 2 ii (.int .i64 0) 1 8 Tryz.underlying22 hi hz0 hz1 hz2 rfl (by decide) _ _ _ rfl (World.ownsRow.alloc HO4.out _) ⟨w4.heap.size, 0, none⟩ 1 1 [.int .i64 (x : Int)] rfl rfl ?f1 ?f2 ?f3 ?f4 ?f5 ?_)
  case f1 => intro j u hj; exact new_cells _ _ _ _ rfl j u hj
  case f2 => intro u hu; simp at hu; subst hu; rfl
  case f3 => rw [HZL.out]; unfold maxLen; omega
  case f4 => rw [HZL.out]; omega
  case f5 => rw [size_alloc']; have := HS4.out; omega
  intro v7 w7 hown hgrow _ hat7
  have HO7 : Hid (OwnI w.heap.size w7 v7 (nums ((l.take (k + 1)).filter (fun e => decide ((eat es e).tail = T))))) := by unfold Hid; rw [HES.out]; exact OwnI.snoc hown
  have HN7 : Hid (Nx w w7) := Below.grown (HN4.out.alloc _) hgrow (by rw [size_alloc']; have := HS4.out; omega) (fun g hg => (own_lt HO4.out g hg).1)
  clear hown hgrow hat7 c0 c1
  go_wp2
  go_roundw
  case rel => exact ⟨k + 1, by omega, by go_num, HO7, HN7⟩
  case measure => simp [intOf]; omega

end Go.Proofs.YtcdjmpbdaiafgaaGreatDoor
