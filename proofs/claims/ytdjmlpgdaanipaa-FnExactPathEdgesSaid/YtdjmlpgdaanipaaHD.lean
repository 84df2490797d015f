import Derived.Test.YtdjmlpgdaanipaaGC
import Derived.Test.YtdjmlpgdaanipaaHA
namespace Go.Proofs.Ytdjmlpgdaanipaa
open Go.RowKit
set_option linter.unusedVariables false
set_option maxRecDepth 100000

/-- what the targets of a vertex want -/
structure TW (G : Gr) : Prop where
  v : G.eo.length ≤ 6000
  t : G.tt.length ≤ 40000
  lf : G.fi.length = G.eo.length + 1
  fi : ∀ i, i ≤ G.eo.length → 0 ≤ iat G.fi i ∧ iat G.fi i ≤ G.tt.length
  fm : ∀ i, i < G.eo.length → iat G.fi i ≤ iat G.fi (i + 1)
  tt : ∀ k, k < G.tt.length → 0 ≤ iat G.tt k ∧ iat G.tt k < G.eo.length
def fsA (G : Gr) (v : Nat) : Nat := (iat G.fi v).toNat
theorem fsA_eq {G : Gr} (h : TW G) {v : Nat} (hv : v ≤ G.eo.length) : iat G.fi v = (fsA G v : Int) ∧ fsA G v ≤ G.tt.length := by
  have := h.fi v hv
  unfold fsA
  omega
theorem fsA_le {G : Gr} (h : TW G) {v : Nat} (hv : v < G.eo.length) : fsA G v ≤ fsA G (v + 1) := by
  have h1 := (fsA_eq h (v := v) (by omega)).1
  have h2 := (fsA_eq h (v := v + 1) (by omega)).1
  have := h.fm v hv
  omega
/-- the vertices to which the arcs of v go -/
def seg (zs : List Int) (p q : Nat) : List Int := (zs.drop p).take (q - p)
theorem seg_len {zs : List Int} {p q : Nat} (hq : q ≤ zs.length) : (seg zs p q).length = q - p := by
  simp [seg]; omega
theorem seg_at {zs : List Int} {p q i : Nat} (hi : i < q - p) : iat (seg zs p q) i = iat zs (p + i) := by
  simp [iat, seg, List.getD, hi, List.getElem?_take_of_lt]
theorem HInts.seg {B : Nat} {w : World} {a : Option Addr} {n c : Nat} {zs : List Int} (h : HInts B w (.slice a n c) zs) {p q : Nat} (hpq : p ≤ q) (hq : q ≤ zs.length) (a' : Option Addr) (c' : Nat)
    (ha : ∀ b off, a = some ⟨b, off, none⟩ → p < q → a' = some ⟨b, off + p, none⟩) : HInts B w (.slice a' (q - p) c') (seg zs p q) := by
  obtain ⟨a0, c0, e, hn, hk⟩ := h
  simp only [Value.slice.injEq] at e
  obtain ⟨rfl, rfl, rfl⟩ := e
  refine ⟨a', c', by rw [seg_len hq], by rw [seg_len hq]; omega, fun h0 => ?_⟩
  rw [seg_len hq] at h0
  obtain ⟨b, off, rfl, hB, hb, hc⟩ := hk (by omega)
  refine ⟨b, off + p, ha b off rfl (by omega), hB, hb, fun i hi => ?_⟩
  rw [seg_len hq] at hi
  show w.cell? ⟨b, off + p + i, none⟩ = _
  rw [seg_at hi, Nat.add_assoc]
  exact hc (p + i) (by omega)
theorem ret_slice {a : Option Addr} {n c : Nat} : Ending.returned (.slice a n c) = .returned (.slice a n c) := rfl

set_option maxHeartbeats 4000000 in
theorem targets_any (B : Nat) (v0 v1 v2 v3 v4 v5 v6 : Value) (G : Gr) (v : Nat) (w : World) (h0 : HG B w v0 v1 v2 v3 v4 v5 v6 G) (hT : TW G) (hv : v < G.eo.length) :
    Calls Try.prog 45 #[.agg #[v0, v1, v2, v3, v4, v5, v6], .int .i64 v] w fun e w' => (∃ a n c, e = .returned (.slice a n c) ∧ HInts B w' (.slice a n c) (seg G.tt (fsA G v) (fsA G (v + 1)))) ∧ Nx w w' := by
  have hcp := h0.c3
  have E0 := fsA_eq hT (v := v) (by omega)
  have E1 := fsA_eq hT (v := v + 1) (by omega)
  have E2 := fsA_le hT hv
  have hlf := hT.lf
  have hvv := hT.v
  have htt := hT.t
  have HH : Hid (HG B w v0 v1 v2 v3 v4 v5 v6 G) := h0
  obtain ⟨⟨a0, c0, rfl, hn0, hk0⟩, ⟨a1, c1, rfl, hn1, hk1⟩, ⟨a2, c2, rfl, hn2, hk2⟩, ⟨a3, c3, rfl, hn3, hk3⟩, ⟨a4, c4, rfl, hn4, hk4⟩, ⟨a5, c5, rfl, hn5, hk5⟩, ⟨a6, c6, rfl, hn6, hk6⟩⟩ := h0
  have HM0 : Hid (G.eo.length ≤ maxLen) := hn0
  have HM5 : Hid (G.sr.length ≤ maxLen) := hn5
  unfold maxLen at hn0 hn1 hn2 hn3 hn4 hn5 hn6
  generalize hz0 : G.eo.length = n0 at *
  have Z0 : Hid (G.eo.length = n0) := hz0
  clear hz0
  generalize hz1 : G.so.length = n1 at *
  have Z1 : Hid (G.so.length = n1) := hz1
  clear hz1
  generalize hz2 : G.fi.length = n2 at *
  have Z2 : Hid (G.fi.length = n2) := hz2
  clear hz2
  generalize hz3 : G.tt.length = n3 at *
  have Z3 : Hid (G.tt.length = n3) := hz3
  clear hz3
  generalize hz4 : G.co.length = n4 at *
  have Z4 : Hid (G.co.length = n4) := hz4
  clear hz4
  generalize hz5 : G.sr.length = n5 at *
  have Z5 : Hid (G.sr.length = n5) := hz5
  clear hz5
  generalize hz6 : G.we.length = n6 at *
  have Z6 : Hid (G.we.length = n6) := hz6
  clear hz6
  obtain ⟨a', n', c', e, hcp⟩ := hcp
  simp only [Value.slice.injEq] at e
  obtain ⟨rfl, rfl, rfl⟩ := e
  generalize fsA G v = p at *
  generalize fsA G (v + 1) = q at *
  subst hlf
  obtain ⟨b2, o2, rfl, _, hb2, hc2⟩ := hk2 (by omega)
  have hx0 : w.cell? ⟨b2, o2 + v, none⟩ = some (.int .i64 (iat G.fi v)) := hc2 v (by omega)
  have hx1 : w.cell? ⟨b2, o2 + (v + 1), none⟩ = some (.int .i64 (iat G.fi (v + 1))) := hc2 (v + 1) (by omega)
  rw [E0.1] at hx0
  rw [E1.1] at hx1
  have i0 : (p : Int) ≤ q := by omega
  have i1 : (q : Int) ≤ c3 := by omega
  have i2 : (v : Int) < (n0 : Int) + 1 := by omega
  have i3 : (v : Int) + 1 < (n0 : Int) + 1 := by omega
  have hwv : IntKind.i64.wrap ((v : Int) + 1) = (v : Int) + 1 := by rw [IntKind.wrap_i64]; omega
  have HQ : Hid (q ≤ n3) := E1.2
  have HPQ : Hid (p ≤ q) := E2
  have HCP : Hid (n3 ≤ c3) := hcp
  clear hc2 hk0 hk1 hk2 hk3 hk4 hk5 hk6 E0 E1
  go_enter Try.func45, Try.ntmps45
  go_upto_region 1 with fail
  generalize hW0 : (w.alloc (.cells #[.slice a0 n0 c0, .slice a1 n1 c1, .slice (some ⟨b2, o2, none⟩) (n0 + 1) c2, .slice a3 n3 c3, .slice a4 n4 c4, .slice a5 n5 c5, .slice a6 n6 c6] 27)) = W0 at *
  have HW0 : Hid (Nx w W0) := by unfold Hid; rw [← hW0]; exact box1 _ _
  have BA : Blk W0 w.heap.size #[.slice a0 n0 c0, .slice a1 n1 c1, .slice (some ⟨b2, o2, none⟩) (n0 + 1) c2, .slice a3 n3 c3, .slice a4 n4 c4, .slice a5 n5 c5, .slice a6 n6 c6] := by rw [← hW0]; exact Blk.new w _ 27 _ rfl
  clear hW0
  have x0 := cell_next HW0.out hb2 hx0
  have x1 := cell_next HW0.out hb2 hx1
  have k2 := BA.cell (i := 2) rfl
  have k3 := BA.cell (i := 3) rfl
  clear BA hx0 hx1
  by_cases hck : c3 = p
  · subst hck
    go_wp2
    go_quiet (fail)
    go_wp2
    go_ret
    exact ⟨⟨_, _, _, rfl, HInts.seg (HH.out.h3.next (HW0.out.trans ⟨rfl, rfl, rfl, Nat.le_refl _, fun _ _ => rfl⟩)) HPQ.out (by rw [Z3.out]; exact HQ.out) _ _ (fun b off _ h => by have := HCP.out; have := HQ.out; omega)⟩, HW0.out.trans ⟨rfl, rfl, rfl, Nat.le_refl _, fun _ _ => rfl⟩⟩
  · go_wp2
    go_quiet (fail)
    go_wp2
    go_ret
    exact ⟨⟨_, _, _, rfl, HInts.seg (HH.out.h3.next (HW0.out.trans ⟨rfl, rfl, rfl, Nat.le_refl _, fun _ _ => rfl⟩)) HPQ.out (by rw [Z3.out]; exact HQ.out) _ _ (fun b off ha h => by subst ha; rw [Option.map_some, Addr.add_lit])⟩, HW0.out.trans ⟨rfl, rfl, rfl, Nat.le_refl _, fun _ _ => rfl⟩⟩
end Go.Proofs.Ytdjmlpgdaanipaa
