import Derived.Test.YtdjmlpgdaanipaaHK
import Derived.Test.YtdjmlpgdaanipaaGU
namespace Go.Proofs.Ytdjmlpgdaanipaa
open Go.RowKit Go.Sort
set_option linter.unusedVariables false
set_option maxRecDepth 100000

theorem ownI_nil (C : Nat) (w : World) : OwnI C w (.slice none 0 0) [] := ⟨rfl, .inl ⟨rfl, rfl⟩⟩

set_option maxHeartbeats 8000000 in
theorem implEdges_any (B : Nat) (v0 v1 v2 v3 v4 v5 v6 vp : Value) (G : Gr) (P : List Int) (w : World) (h0 : HG B w v0 v1 v2 v3 v4 v5 v6 G) (hp : HInts B w vp P) (hpc : CapOk vp) (hs : SmallG G) (hl : P.length ≤ 1048576) :
    Calls Try.prog 20 #[.agg #[v0, v1, v2, v3, v4, v5, v6], vp] w fun e w' => (∃ v, e = .returned v ∧ OwnI w.heap.size w' v (pathEdges G P)) ∧ Nx w w' := by
  obtain ⟨ii, hi, hz0, hz1, hz2⟩ := info_parts infoInt
  have HS : Hid (SmallG G) := hs
  have HPC : Hid (CapOk vp) := hpc
  clear hs
  have HH : Hid (HG B w v0 v1 v2 v3 v4 v5 v6 G) := h0
  have HP : Hid (HInts B w vp P) := hp
  obtain ⟨⟨a0, c0, rfl, hn0, hk0⟩, ⟨a1, c1, rfl, hn1, hk1⟩, ⟨a2, c2, rfl, hn2, hk2⟩, ⟨a3, c3, rfl, hn3, hk3⟩, ⟨a4, c4, rfl, hn4, hk4⟩, ⟨a5, c5, rfl, hn5, hk5⟩, ⟨a6, c6, rfl, hn6, hk6⟩⟩ := h0
  obtain ⟨a7, c7, rfl, hn7, hk7⟩ := hp
  unfold maxLen at hn0 hn1 hn2 hn3 hn4 hn5 hn6 hn7
  obtain ⟨a', n', c', e, hcp⟩ := hpc
  simp only [Value.slice.injEq] at e
  obtain ⟨rfl, rfl, rfl⟩ := e
  generalize hz0 : G.eo.length = n0 at *
  have Z0 : Hid (G.eo.length = n0) := hz0
  clear hz0
  generalize hz1 : G.so.length = n1 at *
  have Z1 : Hid (G.so.length = n1) := hz1
  clear hz1
  generalize hz2 : G.fi.length = n2 at *
  have Z2 : Hid (G.fi.length = n2) := hz2
  clear hz2
  generalize hz3 : G.tt.length = n3 at *
  have Z3 : Hid (G.tt.length = n3) := hz3
  clear hz3
  generalize hz4 : G.co.length = n4 at *
  have Z4 : Hid (G.co.length = n4) := hz4
  clear hz4
  generalize hz5 : G.sr.length = n5 at *
  have Z5 : Hid (G.sr.length = n5) := hz5
  clear hz5
  generalize hz6 : G.we.length = n6 at *
  have Z6 : Hid (G.we.length = n6) := hz6
  clear hz6
  generalize hz7 : P.length = n7 at *
  have Z7 : Hid (P.length = n7) := hz7
  clear hz7
  go_enter Try.func20, Try.ntmps20
  go_wp2_with fail
  refine (arcsAlong_any B _ _ _ _ _ _ _ _ G P _ (by exact HH.out.next (box1 _ _)) (by exact HP.out.next (box1 _ _)) HPC.out HS.out).mono ?_
  rintro e w1 ⟨⟨ta, tn, tc, rfl, hown⟩, hx⟩
  have BA : Blk w1 w.heap.size #[.slice a0 n0 c0, .slice a1 n1 c1, .slice a2 n2 c2, .slice a3 n3 c3, .slice a4 n4 c4, .slice a5 n5 c5, .slice a6 n6 c6] := (Blk.new w #[.slice a0 n0 c0, .slice a1 n1 c1, .slice a2 n2 c2, .slice a3 n3 c3, .slice a4 n4 c4, .slice a5 n5 c5, .slice a6 n6 c6] 27 _ rfl).next hx
  have HX : Hid (Nx w w1) := (box1 _ _).trans hx
  have HZ1 : Hid (w.heap.size + 1 ≤ w1.heap.size) := by unfold Hid; have := hx.size; rw [size_box1] at this; exact this
  clear hx hown
  cases hb : (validG G && isPath G P)
  case false =>
    have HF : Hid (pathEdges G P = []) := by unfold Hid pathEdges; rw [hb]; rfl
    clear hb
    go_wp2
    go_ret
    exact ⟨⟨_, rfl, by rw [HF.out]; exact ownI_nil _ _⟩, HX.out⟩
  have HPE : Hid (pathEdges G P = P.map (fun v => iat G.eo v.toNat)) := by unfold Hid pathEdges; rw [hb]; rfl
  rw [Bool.and_eq_true] at hb
  have HI : Hid (IP G P) := ip_of hb.2
  clear hb
  have hl1 : n7 ≤ 10000 := by have := HI.out.l1; rw [Z7.out] at this; exact this
  go_wp2
  go_loopw [7, 20] (fun v i wr => ∃ k : Nat, k ≤ n7 ∧ i = .int .i64 k ∧ Hid (OwnI (w.heap.size + 1) wr v (edgesTo G P k)) ∧ Hid (Below (w.heap.size + 1) w1 wr)) (fun _ i _ => n7 - (intOf i).toNat)
  case atStart => exact ⟨0, Nat.zero_le _, rfl, ownI_nil _ _, Below.refl _ _⟩
  obtain ⟨k, hkn, rfl, HO, HN⟩ := hrel
  have HW : Hid (Nx w wr) := Below.trans HX.out (Below.mono HN.out (Nat.le_succ _))
  by_cases hlt : k < n7
  · have hlt' : (k : Int) < n7 := by omega
    obtain ⟨s, hs⟩ : ∃ s : Nat, iat P k = (s : Int) := ⟨(iat P k).toNat, by have := (HI.out.b k (by rw [Z7.out]; exact hlt)).1; omega⟩
    have hsn : s < n0 := by have := (HI.out.b k (by rw [Z7.out]; exact hlt)).2; rw [Z0.out] at this; omega
    have hsn' : (s : Int) < n0 := by omega
    obtain ⟨b7, o7, ha7, _, hb7, hc7⟩ := hk7 (by omega)
    obtain ⟨b0, o0, ha0, _, hb0, hc0⟩ := hk0 (by omega)
    subst ha7 ha0
    have x0' : w.cell? ⟨b7, o7 + k, none⟩ = some (.int .i64 (iat P k)) := hc7 k hlt
    rw [hs] at x0'
    have x0 := cell_next HW.out hb7 x0'
    have y0 := cell_next HW.out hb0 (hc0 s hsn)
    have k0 := (BA.below HN.out (Nat.lt_succ_self _)).cell (i := 0) rfl
    have HLK : Hid ((edgesTo G P k).length = k) := edgesTo_len (by rw [Z7.out]; omega)
    have HES : Hid (edgesTo G P (k + 1) = edgesTo G P k ++ [iat G.eo s]) := by
      unfold Hid
      rw [edgesTo_succ (by rw [Z7.out]; exact hlt), hs, Int.toNat_natCast]
    obtain ⟨av, cv, hvs⟩ := HO.out.slice
    rw [HLK.out] at hvs
    subst hvs
    have HZW : Hid (w.heap.size + 1 ≤ wr.heap.size) := Nat.le_trans HZ1.out HN.out.size
    clear x0' hc7 hc0 hk0 hk7 hs
    generalize iat G.eo s = es at *
    go_wp2_with (at_builtin; refine wpList_append_own_at _ rfl _ _ 22 rfl (w.heap.size + 1) 2 ii (.int .i64 0) 1 8 Try.underlying22 hi hz0 hz1 hz2 rfl (by decide) _ _ _ rfl (World.ownsRow.alloc HO.out _) ⟨wr.heap.size, 0, none⟩ 1 1 [.int .i64 es] rfl rfl ?c1 ?c2 ?c3 ?c4 ?c5 ?_)
    case c1 => exact fun j u hj => new_cells wr _ _ _ rfl j u hj
    case c2 => intro u hu; simp at hu; subst hu; rfl
    case c3 => rw [HLK.out]; unfold maxLen; omega
    case c4 => rw [HLK.out]; omega
    case c5 => have := HZW.out; simp; omega
    intro v8 w8 hown hgrow _ _
    have HV8 : Hid (OwnI (w.heap.size + 1) w8 v8 (edgesTo G P (k + 1))) := by unfold Hid; rw [HES.out]; exact OwnI.snoc hown
    have HB8 : Hid (Below (w.heap.size + 1) w1 w8) := Below.grown (Below.alloc HN.out HZW.out _) hgrow (by have := HZW.out; simp; omega) (fun g hg => (own_lt HO.out g hg).1)
    clear hown hgrow
    go_wp2
    go_roundw
    case rel => exact ⟨k + 1, by omega, by go_num, HV8, HB8⟩
    case measure => simp [intOf]; omega
  have ek : n7 = k := by omega
  subst ek
  have HF : Hid (OwnI (w.heap.size + 1) wr u7 (pathEdges G P)) := by
    unfold Hid
    rw [HPE.out, ← edgesTo_all, Z7.out]
    exact HO.out
  clear HO hlt hkn
  go_wp2
  go_ret
  exact ⟨⟨_, rfl, HF.out.base (Nat.le_succ _)⟩, HW.out⟩
end Go.Proofs.Ytdjmlpgdaanipaa
