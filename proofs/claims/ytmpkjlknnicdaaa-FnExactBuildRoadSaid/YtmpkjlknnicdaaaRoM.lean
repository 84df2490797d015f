import Derived.Test.YtmpkjlknnicdaaaRoH
import Derived.Test.YtmpkjlknnicdaaaRoG
import Derived.Test.YtmpkjlknnicdaaaRoL
namespace Go.Proofs.Ytmpkjlknnicdaaa
open Go.RowKit
set_option linter.unusedVariables false
set_option maxRecDepth 100000

/-- the road of a network -/
def tlN (N : Nt) : Nat → Nat := tlE (E1 N)
def roadY (N : Nt) : Rd := ⟨N.nodes, E1 N, (List.range (N.nodes.length + 1)).map (fun q => ((cL (tlN N) q (mN N) : Nat) : Int)), (outS (tlN N) (mN N) (N.nodes.length + 1)).map (fun e : Nat => (e : Int))⟩
def roadOf (N : Nt) : Rd := if implValid N then roadY N else ⟨[], [], [], []⟩
/-- its four rows, each of its own: the edges lie lowest, then the firsts, then the outs, then the nodes -/
def RoadOwn (B : Nat) (w : World) (v0 v1 v2 v3 : Value) (R : Rd) : Prop :=
  (v0 = .slice none 0 0 ∧ v1 = .slice none 0 0 ∧ v2 = .slice none 0 0 ∧ v3 = .slice none 0 0 ∧ R = ⟨[], [], [], []⟩) ∨
  ∃ gF gO cF cO, v2 = .slice (some ⟨gF, 0, none⟩) R.first.length cF ∧ v3 = .slice (some ⟨gO, 0, none⟩) R.out.length cO ∧ gF < gO ∧ OwnE B w v1 R.edges ∧ (∀ g, v1.ownBlock = some g → g < gF) ∧ RW w gF R.first.length (iat R.first) ∧ RW w gO R.out.length (iat R.out) ∧ OwnI (gO + 1) w v0 R.nodes ∧ B ≤ gF ∧ R.first.length ≤ maxLen ∧ R.out.length ≤ maxLen
theorem OwnI.slice {B : Nat} {w : World} {v : Value} {zs : List Int} (h : OwnI B w v zs) : ∃ a c, v = .slice a zs.length c := by
  rcases h.2 with ⟨rfl, h2⟩ | ⟨g, cap, cur, rfl, _⟩
  · exact ⟨none, 0, by rw [h2]⟩
  · exact ⟨_, _, rfl⟩
theorem OwnI.base {B B' : Nat} {w : World} {v : Value} {zs : List Int} (h : OwnI B w v zs) (hB : B' ≤ B) : OwnI B' w v zs := by
  obtain ⟨h1, h2⟩ := h
  refine ⟨h1, ?_⟩
  rcases h2 with h2 | ⟨g, cap, cur, hv, hg, r⟩
  · exact Or.inl h2
  · exact Or.inr ⟨g, cap, cur, hv, by omega, r⟩
theorem own_store {B : Nat} {w : World} {ty sz : Nat} {v : Value} {n : Nat} {xs : List Value} (h : w.ownsRow B ty sz v n xs) {g : Nat} (hg : g < B) (o : Nat) (u : Value) : (w.setCell ⟨g, o, none⟩ u).ownsRow B ty sz v n xs := by
  obtain ⟨h1, h2⟩ := h
  refine ⟨h1, ?_⟩
  rcases h2 with h2 | ⟨g', cap, cur, hv, hg', hh, r⟩
  · exact Or.inl h2
  · exact Or.inr ⟨g', cap, cur, hv, hg', (Below.heap_setCell _ _ _ _ (by simp; omega)).trans hh, r⟩
theorem OwnE.base {B B' : Nat} {w : World} {v : Value} {es : List Eg} (h : OwnE B w v es) (hB : B' ≤ B) : OwnE B' w v es := by
  obtain ⟨h1, h2⟩ := h
  refine ⟨h1, ?_⟩
  rcases h2 with h2 | ⟨g, cap, cur, hv, hg, r⟩
  · exact Or.inl h2
  · exact Or.inr ⟨g, cap, cur, hv, by omega, r⟩
theorem RoadOwn.held {B : Nat} {w : World} {v0 v1 v2 v3 : Value} {R : Rd} (h : RoadOwn B w v0 v1 v2 v3 R) : HRoad B w v0 v1 v2 v3 R := by
  rcases h with ⟨rfl, rfl, rfl, rfl, rfl⟩ | ⟨gF, gO, cF, cO, rfl, rfl, h1, h2, h3, h4, h5, h6, h7, h8, h9⟩
  · exact ⟨⟨_, _, rfl, by simp [maxLen], fun h => absurd h (Nat.lt_irrefl _)⟩, ⟨_, _, rfl, by simp [maxLen], fun h => absurd h (Nat.lt_irrefl _)⟩, ⟨_, _, rfl, by simp [maxLen], fun h => absurd h (Nat.lt_irrefl _)⟩, ⟨_, _, rfl, by simp [maxLen], fun h => absurd h (Nat.lt_irrefl _)⟩⟩
  · exact ⟨(h6.base (by omega)).held, h2.held, h4.held rfl h8 (fun i _ => rfl) h7, h5.held rfl h9 (fun i _ => rfl) (by omega)⟩
theorem E1_tail {N : Nt} (h : RoadIn N) {e : Nat} (he : e < (E1 N).length) : 0 ≤ (eat (E1 N) e).tail ∧ (eat (E1 N) e).tail < N.nodes.length := by
  rw [E1_len] at he
  obtain ⟨i, j, q, hi, hj, hq, he1⟩ := lay_of N.ways.length he
  obtain ⟨_, a1⟩ := at_place hi hj hq
  rw [← he1] at a1
  have hm := asc_mono (fun i j => rfl) h.asc
  have hp : ∀ t, hasI N.nodes t = true → pos N.nodes t < N.nodes.length := by
    intro t ht
    obtain ⟨k, hk, rfl⟩ := hasI_at ht
    rw [pos_at hm hk]
    exact hk
  have hl := h.len i hi
  have hns : nsN N i = (wat N.ways i).weights.length := rfl
  have p0 := hp _ (h.has i j hi (by omega))
  have p1 := hp _ (h.has i (j + 1) hi (by omega))
  rw [a1]
  split
  · exact ⟨by simp [fwd], by simp [fwd]; omega⟩
  · split
    · exact ⟨by simp [fwd], by simp [fwd]; omega⟩
    · exact ⟨by simp [bwd], by simp [bwd]; omega⟩

theorem tlN_lt {N : Nt} (h : RoadIn N) {e : Nat} (he : e < mN N) : tlN N e < N.nodes.length := by
  have := E1_tail h (e := e) (by rw [E1_len]; exact he)
  unfold tlN tlE
  omega
theorem out_len {N : Nt} (h : RoadIn N) : (roadY N).out.length = mN N := by
  show ((outS (tlN N) (mN N) (N.nodes.length + 1)).map (fun e : Nat => (e : Int))).length = _
  rw [List.length_map, outS_len]
  exact cL_all fun e he => Nat.lt_succ_of_lt (tlN_lt h he)
theorem road_mk {N : Nt} (hv : implValid N = true) {B : Nat} {w : World} {vn ve : Value} {gF gO cO : Nat} {F : Nat → Int} (h1 : OwnE B w ve (E1 N)) (hb : ∀ g, ve.ownBlock = some g → g < gF) (hB : B ≤ gF) (hg : gF < gO)
    (hF : RW w gF (N.nodes.length + 1) (fun q => ((cL (tlE (E1 N)) q (E1 N).length : Nat) : Int))) (hO : RW w gO (E1 N).length F) (hO' : ∀ e, e < (E1 N).length → F (rank (tlE (E1 N)) (E1 N).length e) = e) (hn : OwnI (gO + 1) w vn N.nodes) :
    RoadOwn B w vn ve (.slice (some ⟨gF, 0, none⟩) (N.nodes.length + 1) (N.nodes.length + 1)) (.slice (some ⟨gO, 0, none⟩) (E1 N).length cO) (roadOf N) := by
  have hr := road_in hv
  have e0 : roadOf N = roadY N := by simp [roadOf, hv]
  have l1 : (roadY N).first.length = N.nodes.length + 1 := by simp [roadY]
  have l2 := out_len hr
  have hm : mN N ≤ 4000 := by unfold mN; rw [st_ed]; exact hr.ed
  have c0 := hr.c0
  rw [E1_len] at hF hO hO'
  rw [e0]
  refine Or.inr ⟨gF, gO, N.nodes.length + 1, cO, by rw [l1], by rw [l2, E1_len], hg, h1, hb, ?_, ?_, hn, hB, by rw [l1]; unfold maxLen; omega, by rw [l2]; unfold maxLen; omega⟩
  · rw [l1]
    exact hF.congr fun i hi => (iat_map (fun q => ((cL (tlN N) q (mN N) : Nat) : Int)) hi).symm
  · rw [l2]
    refine hO.congr fun x hx => ?_
    obtain ⟨e, h2, h3⟩ := out_eq (tl := tlN N) (n := N.nodes.length) (fun e he => tlN_lt hr he) (F := F) hO' hx
    rw [h3]
    have h4 : (roadY N).out[x]? = some (e : Int) := by
      show ((outS (tlN N) (mN N) (N.nodes.length + 1)).map (fun e : Nat => (e : Int)))[x]? = _
      rw [List.getElem?_map, h2]
      rfl
    simp [iat, List.getD, h4]

set_option maxHeartbeats 4000000 in
theorem implRoad_any (B0 : Nat) (v0 v1 v2 v3 : Value) (N : Nt) (w : World) (h0 : HNet B0 w v0 v1 v2 v3 N) (hs : wsum N.ways N.ways.length ≤ 1048576) :
    Calls Try.prog 11 #[.agg #[v0, v1, v2, v3, .int .i64 N.uturn]] w fun e w' => (∃ r0 r1 r2 r3, e = .returned (.agg #[r0, r1, r2, r3]) ∧ RoadOwn w.heap.size w' r0 r1 r2 r3 (roadOf N)) ∧ Nx w w' := by
  have HS : Hid (wsum N.ways N.ways.length ≤ 1048576) := hs
  have HI : Hid (HNet B0 w v0 v1 v2 v3 N) := h0
  obtain ⟨a0, c0, rfl, _⟩ := h0.1.slice
  clear hs
  go_enter Try.func11, Try.ntmps11
  go_wp2_with fail
  refine (implValid_any B0 _ _ _ _ N _ (by exact HI.out.next (box2 _ _ _)) HS.out).mono ?_
  rintro e w1 ⟨rfl, hx⟩
  have BA : Blk w1 w.heap.size #[.slice a0 N.nodes.length c0, v1, v2, v3, .int .i64 N.uturn] := ((Blk.new w _ 34 _ rfl).alloc _).next hx
  have BR : Blk w1 (w.heap.size + 1) #[.slice none 0 0, .slice none 0 0, .slice none 0 0, .slice none 0 0] := (Blk.new _ _ 40 _ (by simp)).next hx
  have HX1 : Hid (Nx w w1) := (box2 _ _ _).trans hx
  have HRZ : Hid (w.heap.size + 1 < w1.heap.size) := BR.lt
  clear hx
  have rz0 := BR.cell (i := 0) rfl
  have rz1 := BR.cell (i := 1) rfl
  have rz2 := BR.cell (i := 2) rfl
  have rz3 := BR.cell (i := 3) rfl
  have rf0 := BR.frozen 0
  have rf1 := BR.frozen 1
  have rf2 := BR.frozen 2
  have rf3 := BR.frozen 3
  cases hv : implValid N
  case false =>
    go_wp2
    have BR' := (((BR.set 0 (.slice none 0 0)).set 1 (.slice none 0 0)).set 2 (.slice none 0 0)).set 3 (.slice none 0 0)
    have q0 := BR'.cell (i := 0) rfl
    have q1 := BR'.cell (i := 1) rfl
    have q2 := BR'.cell (i := 2) rfl
    have q3 := BR'.cell (i := 3) rfl
    refine bodyPost_ret (v := .agg #[.slice none 0 0, .slice none 0 0, .slice none 0 0, .slice none 0 0]) (by simp [results, Try.results11, go_sem, q0, q1, q2, q3]) rfl ⟨⟨_, _, _, _, rfl, Or.inl ⟨rfl, rfl, rfl, rfl, by simp [roadOf, hv]⟩⟩, ?_⟩
    exact Below.setCell (Below.setCell (Below.setCell (Below.setCell HX1.out (by simp) _) (by simp) _) (by simp) _) (by simp) _
  have HV : Hid (implValid N = true) := hv
  have HR : Hid (RoadIn N) := road_in hv
  have k0 := BA.cell (i := 0) rfl
  have k1 := BA.cell (i := 1) rfl
  have k2 := BA.cell (i := 2) rfl
  have k3 := BA.cell (i := 3) rfl
  have k4 := BA.cell (i := 4) rfl
  go_wp2_with fail
  refine (layEdges_any B0 _ _ _ _ N _ (by exact HI.out.next HX1.out) HS.out HV.out).mono ?_
  rintro e w2 ⟨⟨ve, rfl, ho⟩, hx⟩
  have HSZ : Hid (w1.heap.size ≤ w2.heap.size) := hx.size
  have HE : Hid (OwnE w1.heap.size w2 ve (E1 N)) := ho
  have BA2 := BA.next hx
  have BR2 := BR.next hx
  have HX2 : Hid (Nx w w2) := HX1.out.trans hx
  clear ho hx BA BR k0 k1 k2 k3 k4 rz0 rz1 rz2 rz3 rf0 rf1 rf2 rf3
  have k0 := BA2.cell (i := 0) rfl
  obtain ⟨ae, ce, hve, _⟩ := HE.out.slice
  subst hve
  have hml : (E1 N).length ≤ 4000 := by rw [E1_len]; unfold mN; rw [st_ed]; exact HR.out.ed
  have hnl : N.nodes.length ≤ 2000 := HR.out.c0
  go_wp2_with fail
  refine (group_any w1.heap.size _ (E1 N) N.nodes.length _ (by exact HE.out.held) hnl hml (fun e he => E1_tail HR.out he)).mono ?_
  rintro e w3 ⟨⟨gF, gO, cO, F, rfl, hg1, hg2, hF, hO, hO'⟩, hx⟩
  have HF : Hid (RW w3 gF (N.nodes.length + 1) (fun q => ((cL (tlE (E1 N)) q (E1 N).length : Nat) : Int))) := hF
  have HO : Hid (RW w3 gO (E1 N).length F) := hO
  have HO' : Hid (∀ e, e < (E1 N).length → F (rank (tlE (E1 N)) (E1 N).length e) = e) := hO'
  have HE3 : Hid (OwnE w1.heap.size w3 (.slice ae (E1 N).length ce) (E1 N)) := HE.out.next hx
  have HEB : Hid (∀ g, (Value.slice ae (E1 N).length ce).ownBlock = some g → g < gF) := fun g hg => by
    obtain ⟨c, fz, hh⟩ := ownE_row HE.out g hg
    have := (Array.getElem?_eq_some_iff.1 hh).1
    omega
  have HGF : Hid (w2.heap.size ≤ gF ∧ gF < gO ∧ gO < w3.heap.size) := ⟨hg1, hg2, hO.lt⟩
  have BA3 := BA2.next hx
  have BR3 := BR2.next hx
  have HX3 : Hid (Nx w w3) := HX2.out.trans hx
  have HS1 : Hid (w.heap.size ≤ w1.heap.size ∧ w1.heap.size ≤ w2.heap.size) := ⟨HX1.out.size, HSZ.out⟩
  clear hF hO hO' hx BA2 BR2 k0 HE
  have k0 := BA3.cell (i := 0) rfl
  go_wp2_with fail
  refine (clone_any B0 _ N.nodes _ (by exact (HI.out.next HX3.out).1) (by omega)).mono ?_
  rintro e w4 ⟨⟨vn, rfl, ho⟩, hx⟩
  have HNO : Hid (OwnI (gO + 1) w4 vn N.nodes) := ho.base HGF.out.2.2
  obtain ⟨an, cn, hvn⟩ := ho.slice
  subst hvn
  have BR4 := BR3.next hx
  have HX4 : Hid (Nx w w4) := HX3.out.trans hx
  have HF4 : Hid (RW w4 gF (N.nodes.length + 1) (fun q => ((cL (tlE (E1 N)) q (E1 N).length : Nat) : Int))) := HF.out.next hx
  have HO4 : Hid (RW w4 gO (E1 N).length F) := HO.out.next hx
  have HE4 : Hid (OwnE w1.heap.size w4 (.slice ae (E1 N).length ce) (E1 N)) := HE3.out.next hx
  clear ho hx HF HO HE3 BA3 BR3 k0
  have rz0 := BR4.cell (i := 0) rfl
  have rz1 := BR4.cell (i := 1) rfl
  have rz2 := BR4.cell (i := 2) rfl
  have rz3 := BR4.cell (i := 3) rfl
  have rf0 := BR4.frozen 0
  have rf1 := BR4.frozen 1
  have rf2 := BR4.frozen 2
  have rf3 := BR4.frozen 3
  go_wp2
  have BR' := (((BR4.set 0 (.slice an N.nodes.length cn)).set 1 (.slice ae (E1 N).length ce)).set 2 (.slice (some ⟨gF, 0, none⟩) (N.nodes.length + 1) (N.nodes.length + 1))).set 3 (.slice (some ⟨gO, 0, none⟩) (E1 N).length cO)
  have q0 := BR'.cell (i := 0) rfl
  have q1 := BR'.cell (i := 1) rfl
  have q2 := BR'.cell (i := 2) rfl
  have q3 := BR'.cell (i := 3) rfl
  refine bodyPost_ret (v := .agg #[.slice an N.nodes.length cn, .slice ae (E1 N).length ce, .slice (some ⟨gF, 0, none⟩) (N.nodes.length + 1) (N.nodes.length + 1), .slice (some ⟨gO, 0, none⟩) (E1 N).length cO]) (by simp [results, Try.results11, go_sem, q0, q1, q2, q3]) rfl ⟨⟨_, _, _, _, rfl, ?_⟩, ?_⟩
  · have z1 := HRZ.out
    have z2 := HS1.out.2
    have z3 := HGF.out.1
    have z4 := HGF.out.2.1
    refine road_mk HV.out (OwnE.base (B := w1.heap.size) (own_store (own_store (own_store (own_store HE4.out z1 _ _) z1 _ _) z1 _ _) z1 _ _) (by omega)) HEB.out (by omega) z4 ?_ ?_ HO'.out (own_store (own_store (own_store (own_store HNO.out (by omega) _ _) (by omega) _ _) (by omega) _ _) (by omega) _ _)
    · exact (((HF4.out.setOther (by simp; omega) _).setOther (by simp; omega) _).setOther (by simp; omega) _).setOther (by simp; omega) _
    · exact (((HO4.out.setOther (by simp; omega) _).setOther (by simp; omega) _).setOther (by simp; omega) _).setOther (by simp; omega) _
  · exact Below.setCell (Below.setCell (Below.setCell (Below.setCell HX4.out (by simp) _) (by simp) _) (by simp) _) (by simp) _
end Go.Proofs.Ytmpkjlknnicdaaa
