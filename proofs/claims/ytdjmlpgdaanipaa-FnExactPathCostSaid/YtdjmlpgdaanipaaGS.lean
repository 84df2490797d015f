import Derived.Test.YtdjmlpgdaanipaaGR
import Derived.Deep.RegionLaw
namespace Go
/-- an own row grows, as one step of a region that draws -/
theorem step_append_mine {P : Program} {ops : Array Oper} {o : Oper} {a : Act} {w : World} {K : Act → World → Prop} {Q : Exit → Act → World → Prop} {E : Prop}
    (hg : o.guard = none) (s x : Operand) (t : TypeId) (hop : o.op = Op.call { callee := Callee.builtin Builtin.append, args := #[s, x], argTypes := #[t, t] })
    (e : TypeId) (i : TypeInfo) (z : Value) (size bytes : Nat) (h1 : P.underlying t = some (.slice e)) (h2 : P.info? e = some i) (h3 : i.zero = some z) (h4 : i.size = size) (h5 : i.bytes = bytes) (h6 : z.cells.size = size) (h7 : 0 < size)
    (B : Nat) (v : Value) (n : Nat) (olds : List Value) (hs : a.eval s = v) (hown : w.ownsRow B e size v n olds)
    (ad : Addr) (m c : Nat) (news : List Value) (hx : a.eval x = .slice (some ad) m c) (hn : news.length = m * size) (hc : ∀ j u, news[j]? = some u → w.cell? (ad.add j) = some u) (h1c : ∀ u ∈ news, u.oneCell' = true)
    (b1 : n + m ≤ maxLen) (b2 : (n + m) * bytes ≤ 140737488355328) (hB : B ≤ w.heap.size)
    (hK : ∀ v' w', w'.ownsRow B e size v' (n + m) (olds ++ news) → w.grownBy w' v.ownBlock → K (a.put o.dst v') w') :
    if Region.wanted o (yielded ops a.tmps) = true then Oper.wp P o a w K Q else E := by
  have hw : Region.wanted o (yielded ops a.tmps) = true := by simp [Region.wanted, hg]
  rw [if_pos hw]
  obtain ⟨v', w', hrun, r1, r2, _⟩ := run_append_own (P := P) w B t o.type e i z size bytes h1 h2 h3 h4 h5 h6 h7 v n olds hown ad m c news hn hc h1c b1 b2 hB
  unfold Oper.wp
  simp [execOp, hop, resolve, invoke, builtin, hs, hx, hrun, Result.andThen]
  exact hK v' w' r1 r2
end Go
namespace Go.Proofs.Ytdjmlpgdaanipaa
open Go.RowKit
set_option linter.unusedVariables false
set_option maxRecDepth 100000

theorem Blk.below {C : Nat} {w w' : World} {b : Nat} {cs : Array Value} (h : Blk w b cs) (k : Below C w w') (hb : b < C) : Blk w' b cs := by
  obtain ⟨t, h⟩ := h
  exact ⟨t, (k.block b hb).trans h⟩
def pathEdges (G : Gr) (P : List Int) : List Int := if validG G && isPath G P then P.map (fun v => iat G.eo v.toNat) else []
/-- the first k edges -/
def edgesTo (G : Gr) (P : List Int) (k : Nat) : List Int := (P.take k).map (fun v => iat G.eo v.toNat)
theorem edgesTo_len {G : Gr} {P : List Int} {k : Nat} (h : k ≤ P.length) : (edgesTo G P k).length = k := by simp [edgesTo, h]
theorem edgesTo_succ {G : Gr} {P : List Int} {k : Nat} (h : k < P.length) : edgesTo G P (k + 1) = edgesTo G P k ++ [iat G.eo (iat P k).toNat] := by
  unfold edgesTo
  rw [List.take_succ_eq_append_getElem h, List.map_append, iat_eq h]
  rfl
theorem edgesTo_all (G : Gr) (P : List Int) : edgesTo G P P.length = P.map (fun v => iat G.eo v.toNat) := by simp [edgesTo]

set_option maxHeartbeats 8000000 in
theorem specEdges_any (B : Nat) (v0 v1 v2 v3 v4 v5 v6 vp : Value) (G : Gr) (P : List Int) (w : World) (h0 : HG B w v0 v1 v2 v3 v4 v5 v6 G) (hp : HInts B w vp P) :
    Calls Try.prog 19 #[.agg #[v0, v1, v2, v3, v4, v5, v6], vp] w fun e w' => (∃ v, e = .returned v ∧ OwnI w.heap.size w' v (pathEdges G P)) ∧ Nx w w' := by
  obtain ⟨ii, hi, hz0, hz1, hz2⟩ := info_parts infoInt
  have HH : Hid (HG B w v0 v1 v2 v3 v4 v5 v6 G) := h0
  have HP : Hid (HInts B w vp P) := hp
  obtain ⟨⟨a0, c0, rfl, hn0, hk0⟩, ⟨a1, c1, rfl, hn1, hk1⟩, ⟨a2, c2, rfl, hn2, hk2⟩, ⟨a3, c3, rfl, hn3, hk3⟩, ⟨a4, c4, rfl, hn4, hk4⟩, ⟨a5, c5, rfl, hn5, hk5⟩, ⟨a6, c6, rfl, hn6, hk6⟩⟩ := h0
  obtain ⟨a7, c7, rfl, hn7, hk7⟩ := hp
  unfold maxLen at hn0 hn1 hn2 hn3 hn4 hn5 hn6 hn7
  generalize hz0 : G.eo.length = n0 at *
  have Z0 : Hid (G.eo.length = n0) := hz0
  clear hz0
  generalize hz1 : G.so.length = n1 at *
  have Z1 : Hid (G.so.length = n1) := hz1
  clear hz1
  generalize hz2 : G.fi.length = n2 at *
  have Z2 : Hid (G.fi.length = n2) := hz2
  clear hz2
  generalize hz3 : G.tt.length = n3 at *
  have Z3 : Hid (G.tt.length = n3) := hz3
  clear hz3
  generalize hz4 : G.co.length = n4 at *
  have Z4 : Hid (G.co.length = n4) := hz4
  clear hz4
  generalize hz5 : G.sr.length = n5 at *
  have Z5 : Hid (G.sr.length = n5) := hz5
  clear hz5
  generalize hz6 : G.we.length = n6 at *
  have Z6 : Hid (G.we.length = n6) := hz6
  clear hz6
  generalize hz7 : P.length = n7 at *
  have Z7 : Hid (P.length = n7) := hz7
  clear hz7
  have HOW : Hid (OwnI (w.heap.size + 1) ((w.alloc (.cells #[.slice a0 n0 c0, .slice a1 n1 c1, .slice a2 n2 c2, .slice a3 n3 c3, .slice a4 n4 c4, .slice a5 n5 c5, .slice a6 n6 c6] 27)).alloc (.cells #[] 2)) (.slice (some ⟨w.heap.size + 1, 0, none⟩) 0 0) []) := by
    unfold Hid
    have := ownI_none (w.heap.size + 1) (w.alloc (.cells #[.slice a0 n0 c0, .slice a1 n1 c1, .slice a2 n2 c2, .slice a3 n3 c3, .slice a4 n4 c4, .slice a5 n5 c5, .slice a6 n6 c6] 27)) (by simp)
    simpa using this
  go_enter Try.func19, Try.ntmps19
  go_wp2_with fail
  refine (specValidG_any B _ _ _ _ _ _ _ G _ (by exact HH.out.next (box2 _ _ _))).mono ?_
  rintro e w1 ⟨rfl, hx⟩
  have BA := ((Blk.new w #[.slice a0 n0 c0, .slice a1 n1 c1, .slice a2 n2 c2, .slice a3 n3 c3, .slice a4 n4 c4, .slice a5 n5 c5, .slice a6 n6 c6] 27 _ rfl).alloc (.cells #[] 2)).next hx
  have HX : Hid (Nx w w1) := (box2 _ _ _).trans hx
  have HO1 : Hid (OwnI (w.heap.size + 1) w1 (.slice (some ⟨w.heap.size + 1, 0, none⟩) 0 0) []) := HOW.out.next hx
  clear hx HOW
  cases hvb : validG G
  case false =>
    have HF : Hid (pathEdges G P = []) := by unfold Hid; simp [pathEdges, hvb]
    go_wp2
    go_ret
    exact ⟨⟨_, rfl, by rw [HF.out]; exact HO1.out.base (Nat.le_succ _)⟩, HX.out⟩
  have HV : Hid (VG G) := vg_of hvb
  have k0 := BA.cell (i := 0) rfl
  have k1 := BA.cell (i := 1) rfl
  have k2 := BA.cell (i := 2) rfl
  have k3 := BA.cell (i := 3) rfl
  have k4 := BA.cell (i := 4) rfl
  have k5 := BA.cell (i := 5) rfl
  have k6 := BA.cell (i := 6) rfl
  go_wp2_with fail
  refine (l4IsPath_any B _ _ _ _ _ _ _ _ G P _ (by exact HH.out.next HX.out) (by exact HP.out.next HX.out) HV.out).mono ?_
  rintro e w2 ⟨rfl, hx⟩
  have BA2 := BA.next hx
  have HX2 : Hid (Nx w w2) := HX.out.trans hx
  have HO2 : Hid (OwnI (w.heap.size + 1) w2 (.slice (some ⟨w.heap.size + 1, 0, none⟩) 0 0) []) := HO1.out.next hx
  clear hx BA HX HO1 k0 k1 k2 k3 k4 k5 k6
  cases hpb : isPath G P
  case false =>
    have HF : Hid (pathEdges G P = []) := by unfold Hid; simp [pathEdges, hpb]
    go_wp2
    go_ret
    exact ⟨⟨_, rfl, by rw [HF.out]; exact HO2.out.base (Nat.le_succ _)⟩, HX2.out⟩
  have HI : Hid (IP G P) := ip_of hpb
  have HPE : Hid (pathEdges G P = P.map (fun v => iat G.eo v.toNat)) := by unfold Hid; simp [pathEdges, hvb, hpb]
  have hl1 : n7 ≤ 10000 := by have := HI.out.l1; rw [Z7.out] at this; exact this
  have HZW : Hid (w.heap.size + 1 < w2.heap.size) := (own_lt HO2.out _ rfl).2
  clear hk1 hk2 hk3 hk4 hk5 hk6 hvb hpb
  go_wp2
  go_loopw [5, 6] (fun v i wr => ∃ k : Nat, k ≤ n7 ∧ i = .int .i64 k ∧ Hid (OwnI (w.heap.size + 1) wr v (edgesTo G P k)) ∧ Hid (Below (w.heap.size + 1) w2 wr)) (fun _ i _ => n7 - (intOf i).toNat)
  case atStart => exact ⟨0, Nat.zero_le _, rfl, HO2, Below.refl _ _⟩
  clear HO2
  obtain ⟨k, hkn, rfl, HO, HN⟩ := hrel
  have HW : Hid (Nx w wr) := Below.trans HX2.out (Below.mono HN.out (Nat.le_succ _))
  by_cases hlt : k < n7
  · have hlt' : (k : Int) < n7 := by omega
    obtain ⟨s, hs⟩ : ∃ s : Nat, iat P k = (s : Int) := ⟨(iat P k).toNat, by have := (HI.out.b k (by rw [Z7.out]; exact hlt)).1; omega⟩
    have hsn : s < n0 := by have := (HI.out.b k (by rw [Z7.out]; exact hlt)).2; rw [Z0.out] at this; omega
    have hsn' : (s : Int) < n0 := by omega
    obtain ⟨b7, o7, ha7, _, hb7, hc7⟩ := hk7 (by omega)
    obtain ⟨b0, o0, ha0, _, hb0, hc0⟩ := hk0 (by omega)
    subst ha7 ha0
    have x0 : w.cell? ⟨b7, o7 + k, none⟩ = some (.int .i64 (iat P k)) := hc7 k hlt
    rw [hs] at x0
    have x0 := cell_next HW.out hb7 x0
    have y0 := cell_next HW.out hb0 (hc0 s hsn)
    have k0 := (BA2.below HN.out (Nat.lt_succ_self _)).cell (i := 0) rfl
    have HLK : Hid ((edgesTo G P k).length = k) := edgesTo_len (by rw [Z7.out]; omega)
    have HES : Hid (edgesTo G P (k + 1) = edgesTo G P k ++ [iat G.eo s]) := by
      unfold Hid
      rw [edgesTo_succ (by rw [Z7.out]; exact hlt), hs, Int.toNat_natCast]
    obtain ⟨av, cv, hvs⟩ := HO.out.slice
    rw [HLK.out] at hvs
    subst hvs
    have HZ3 : Hid (w.heap.size + 1 < wr.heap.size) := Nat.lt_of_lt_of_le HZW.out HN.out.size
    clear hc7 hc0 hk0 hk7 hs
    generalize iat G.eo s = es at *
    go_wp2
    go_region_law (refine step_append_mine rfl (.tmp 21) (.tmp 30) 22 rfl 2 ii (.int .i64 0) 1 8 Try.underlying22 hi hz0 hz1 hz2 rfl (by decide) (w.heap.size + 1) (.slice av k cv) (edgesTo G P k).length (icells (edgesTo G P k)) (by simp [Act.eval]) (World.ownsRow.alloc (show wr.drew.ownsRow _ _ _ _ _ _ from HO.out) _) ⟨wr.heap.size, 0, none⟩ 1 1 [.int .i64 es] (by simp [Act.eval]) rfl (fun j u hj => new_cells wr.drew _ _ _ rfl j u hj) (by intro u hu; simp at hu; subst hu; rfl) (by rw [HLK.out]; unfold maxLen; omega) (by rw [HLK.out]; omega) (by have := HZ3.out; simp; omega) ?_; intro v' w' hown hgrow; have HV' : OwnI (w.heap.size + 1) w' v' (edgesTo G P (k + 1)) := (by rw [HES.out]; exact OwnI.snoc hown); have HB' : Below (w.heap.size + 1) w2 w' := Below.grown (Below.alloc (Below.drew HN.out) (Nat.le_of_lt HZ3.out) _) hgrow (by have := HZ3.out; simp; omega) (fun g hg => (own_lt HO.out g hg).1))
    all_goals go_wp2
    all_goals
      go_roundw
      case rel => exact ⟨k + 1, by omega, by go_num, HV', HB'⟩
      case measure => simp [intOf]; omega
  have ek : n7 = k := by omega
  subst ek
  have HF : Hid (OwnI (w.heap.size + 1) wr u5 (pathEdges G P)) := by
    unfold Hid
    rw [HPE.out, ← edgesTo_all, Z7.out]
    exact HO.out
  clear HO hlt hkn
  go_wp2
  go_ret
  exact ⟨⟨_, rfl, HF.out.base (Nat.le_succ _)⟩, HW.out⟩
end Go.Proofs.Ytdjmlpgdaanipaa
