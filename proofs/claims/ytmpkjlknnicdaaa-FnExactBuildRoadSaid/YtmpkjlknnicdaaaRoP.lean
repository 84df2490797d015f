import Derived.Test.YtmpkjlknnicdaaaRoM
import Derived.Test.YtmpkjlknnicdaaaRoO
namespace Go.Proofs.Ytmpkjlknnicdaaa
open Go.RowKit
set_option linter.unusedVariables false
set_option maxRecDepth 100000

theorem SI.keep {w w' : World} {v : Value} {n : Nat} {F : Nat → Int} (h : SI w v n F) (k : ∀ g, v.ownBlock = some g → w'.heap[g]? = w.heap[g]?) : SI w' v n F := by
  obtain ⟨a, c, rfl, hk⟩ := h
  refine ⟨a, c, rfl, fun h0 => ?_⟩
  obtain ⟨g, rfl, hr⟩ := hk h0
  exact ⟨g, rfl, hr.of_block (k g rfl)⟩
theorem SE.keep {w w' : World} {v : Value} {n : Nat} {V : Nat → Nat → Value} (h : SE w v n V) (k : ∀ g, v.ownBlock = some g → w'.heap[g]? = w.heap[g]?) : SE w' v n V := by
  obtain ⟨a, c, rfl, hk⟩ := h
  refine ⟨a, c, rfl, fun h0 => ?_⟩
  obtain ⟨g, rfl, cs, hb, r⟩ := hk h0
  exact ⟨g, rfl, cs, (k g rfl).trans hb, r⟩
theorem OwnE.se {B : Nat} {w : World} {v : Value} {es : List Eg} (h : OwnE B w v es) : SE w v es.length (fun i j => ((cells7 (eat es i))[j]?).getD (.bool false)) := by
  rcases h.2 with ⟨rfl, h2⟩ | ⟨g, cap, cur, rfl, hg, hh, hc, hm, hs, ht⟩
  · rw [h2]; exact ⟨none, 0, rfl, fun h => absurd h (Nat.lt_irrefl _)⟩
  · refine ⟨_, _, rfl, fun _ => ⟨g, rfl, cur, hh, by rw [hs]; exact Nat.mul_le_mul_right 7 hc, fun i j hi hj => ?_⟩⟩
    have h3 : (cur.toList.take (es.length * 7))[i * 7 + j]? = (ecells es)[i * 7 + j]? := by rw [ht]
    rw [List.getElem?_take_of_lt (by omega), ecells_at hi hj] at h3
    rw [← Array.getElem?_toList, h3]
    have : j < (cells7 (eat es i)).length := hj
    show (cells7 (eat es i))[j]? = some (((cells7 (eat es i))[j]?).getD (.bool false))
    rw [List.getElem?_eq_getElem this]
    rfl
theorem OwnI.si {B : Nat} {w : World} {v : Value} {zs : List Int} (h : OwnI B w v zs) : SI w v zs.length (iat zs) := by
  rcases h.opened with ⟨rfl, h2⟩ | ⟨g, cap, rfl, hg, hm, hr⟩
  · rw [h2]; exact ⟨none, 0, rfl, fun h => absurd h (Nat.lt_irrefl _)⟩
  · exact ⟨_, _, rfl, fun _ => ⟨g, rfl, hr⟩⟩

/-- four open rows apart -/
structure Four (B : Nat) (w : World) (v0 v1 v2 v3 : Value) (n0 n1 n2 n3 : Nat) (F0 : Nat → Int) (V : Nat → Nat → Value) (F2 F3 : Nat → Int) : Prop where
  s0 : SI w v0 n0 F0
  s1 : SE w v1 n1 V
  s2 : SI w v2 n2 F2
  s3 : SI w v3 n3 F3
  b0 : ∀ g, v0.ownBlock = some g → B ≤ g ∧ g < w.heap.size
  b1 : ∀ g, v1.ownBlock = some g → B ≤ g ∧ g < w.heap.size
  b2 : ∀ g, v2.ownBlock = some g → B ≤ g ∧ g < w.heap.size
  b3 : ∀ g, v3.ownBlock = some g → B ≤ g ∧ g < w.heap.size
  d01 : ∀ g, v0.ownBlock = some g → v1.ownBlock ≠ some g
  d02 : ∀ g, v0.ownBlock = some g → v2.ownBlock ≠ some g
  d03 : ∀ g, v0.ownBlock = some g → v3.ownBlock ≠ some g
  d12 : ∀ g, v1.ownBlock = some g → v2.ownBlock ≠ some g
  d13 : ∀ g, v1.ownBlock = some g → v3.ownBlock ≠ some g
  d23 : ∀ g, v2.ownBlock = some g → v3.ownBlock ≠ some g
theorem own_lt {B : Nat} {w : World} {ty sz : Nat} {v : Value} {n : Nat} {xs : List Value} (h : w.ownsRow B ty sz v n xs) : ∀ g, v.ownBlock = some g → B ≤ g ∧ g < w.heap.size := by
  intro g hg
  rcases h.2 with ⟨rfl, _⟩ | ⟨g', cap, cur, rfl, hb, hh, _⟩
  · simp [Value.ownBlock] at hg
  · simp [Value.ownBlock] at hg; subst hg; exact ⟨hb, (Array.getElem?_eq_some_iff.1 hh).1⟩
theorem RoadOwn.four {B : Nat} {w : World} {v0 v1 v2 v3 : Value} {R : Rd} (h : RoadOwn B w v0 v1 v2 v3 R) : ∃ F0 V F2 F3, Four B w v0 v1 v2 v3 R.nodes.length R.edges.length R.first.length R.out.length F0 V F2 F3 := by
  rcases h with ⟨rfl, rfl, rfl, rfl, rfl⟩ | ⟨gF, gO, cF, cO, rfl, rfl, h1, h2, h3, h4, h5, h6, h7, h8, h9⟩
  · refine ⟨fun _ => 0, fun _ _ => .bool false, fun _ => 0, fun _ => 0, ⟨none, 0, rfl, fun h => absurd h (Nat.lt_irrefl _)⟩, ⟨none, 0, rfl, fun h => absurd h (Nat.lt_irrefl _)⟩, ⟨none, 0, rfl, fun h => absurd h (Nat.lt_irrefl _)⟩, ⟨none, 0, rfl, fun h => absurd h (Nat.lt_irrefl _)⟩, ?_, ?_, ?_, ?_, ?_, ?_, ?_, ?_, ?_, ?_⟩ <;> intro g hg <;> simp [Value.ownBlock] at hg
  · have z4 := h4.lt
    have z5 := h5.lt
    have l0 := own_lt h6
    have l1 := own_lt h2
    have e2 : (Value.slice (some ⟨gF, 0, none⟩) R.first.length cF).ownBlock = some gF := rfl
    have e3 : (Value.slice (some ⟨gO, 0, none⟩) R.out.length cO).ownBlock = some gO := rfl
    refine ⟨_, _, _, _, h6.si, h2.se, ⟨_, _, rfl, fun _ => ⟨gF, rfl, h4⟩⟩, ⟨_, _, rfl, fun _ => ⟨gO, rfl, h5⟩⟩, ?_, l1, ?_, ?_, ?_, ?_, ?_, ?_, ?_, ?_⟩
    · intro g hg; have := l0 g hg; omega
    · intro g hg; rw [e2] at hg; have := Option.some.inj hg; omega
    · intro g hg; rw [e3] at hg; have := Option.some.inj hg; omega
    · intro g hg hg'; have := l0 g hg; have := h3 g hg'; omega
    · intro g hg hg'; rw [e2] at hg'; have := l0 g hg; have := Option.some.inj hg'; omega
    · intro g hg hg'; rw [e3] at hg'; have := l0 g hg; have := Option.some.inj hg'; omega
    · intro g hg hg'; rw [e2] at hg'; have := h3 g hg; have := Option.some.inj hg'; omega
    · intro g hg hg'; rw [e3] at hg'; have := h3 g hg; have := Option.some.inj hg'; omega
    · intro g hg hg'; rw [e2] at hg; rw [e3] at hg'; have := Option.some.inj hg; have := Option.some.inj hg'; omega

set_option maxHeartbeats 2000000 in
theorem markRoad_any (B : Nat) (v0 v1 v2 v3 : Value) (n0 n1 n2 n3 : Nat) (F0 : Nat → Int) (V : Nat → Nat → Value) (F2 F3 : Nat → Int) (w : World) (h : Four B w v0 v1 v2 v3 n0 n1 n2 n3 F0 V F2 F3) (hB : B ≤ w.heap.size) (l0 : n0 ≤ 1048576) (l1 : n1 ≤ 1048576) (l2 : n2 ≤ 1048576) (l3 : n3 ≤ 1048576) :
    Calls Try.prog 14 #[.agg #[v0, v1, v2, v3], .int .i64 1] w fun e w' => e = .returned (.int .i64 (1 + n0 + 7 * n1 + n2 + n3)) ∧
      (SI w' v0 n0 (fun i => 1 + i) ∧ SE w' v1 n1 (fun i q => mV (1 + n0 + 7 * i) q) ∧ SI w' v2 n2 (fun i => 1 + n0 + 7 * n1 + i) ∧ SI w' v3 n3 (fun i => 1 + n0 + 7 * n1 + n2 + i)) ∧ Below B w w' ∧ ∀ b, b < w.heap.size → v0.ownBlock ≠ some b → v1.ownBlock ≠ some b → v2.ownBlock ≠ some b → v3.ownBlock ≠ some b → w'.heap[b]? = w.heap[b]? := by
  have HF : Hid (Four B w v0 v1 v2 v3 n0 n1 n2 n3 F0 V F2 F3) := h
  have HB : Hid (B ≤ w.heap.size) := hB
  have HZ : Hid (∀ o : Option Nat, (∀ g, o = some g → B ≤ g ∧ g < w.heap.size) → some w.heap.size ≠ o) := fun o ho e => by have := ho _ e.symm; omega
  have al : Hid (∀ o, ∀ g, g < w.heap.size → (w.alloc o).heap[g]? = w.heap[g]?) := fun o g hg => (box1 w o).block g hg
  obtain ⟨a0, c0, e0, _⟩ := h.s0
  obtain ⟨a1, c1, e1, _⟩ := h.s1
  obtain ⟨a2, c2, e2, _⟩ := h.s2
  obtain ⟨a3, c3, e3, _⟩ := h.s3
  subst e0 e1 e2 e3
  clear h hB
  have BA : Blk (w.alloc (.cells #[.slice a0 n0 c0, .slice a1 n1 c1, .slice a2 n2 c2, .slice a3 n3 c3] 40)) w.heap.size #[.slice a0 n0 c0, .slice a1 n1 c1, .slice a2 n2 c2, .slice a3 n3 c3] := Blk.new w _ 40 _ rfl
  go_enter Try.func14, Try.ntmps14
  go_wp2_with fail
  refine (markI_any _ n0 F0 _ 1 (HF.out.s0.keep fun g hg => al.out _ g (HF.out.b0 g hg).2) l0 (by omega) (by omega)).mono ?_
  rintro e w1 ⟨rfl, m0, o1⟩
  have hz1 : w.heap.size < w1.heap.size := by have := o1.size; simp at this; omega
  have BA1 : Blk w1 w.heap.size #[.slice a0 n0 c0, .slice a1 n1 c1, .slice a2 n2 c2, .slice a3 n3 c3] := by
    obtain ⟨t, hb⟩ := BA
    exact ⟨t, (o1.block _ (by simp) (HZ.out _ HF.out.b0)).trans hb⟩
  have K1 : Hid (∀ g, g < w.heap.size → (Value.slice a0 n0 c0).ownBlock ≠ some g → w1.heap[g]? = w.heap[g]?) := fun g hg hn => (o1.block g (by simp; omega) (fun e => hn e.symm)).trans (al.out _ g hg)
  have M0 : Hid (SI w1 (.slice a0 n0 c0) n0 (fun i => 1 + i)) := m0
  have BL1 : Hid (Below B w w1) := Below.trans (Below.alloc (Below.refl _ _) HB.out _) (o1.below (fun g hg => (HF.out.b0 g hg).1) (by have := HB.out; simp; omega))
  clear m0 o1 BA
  have k0 := BA1.cell (i := 1) rfl
  go_wp2_with fail
  refine (markE_any _ n1 V _ _ (HF.out.s1.keep fun g hg => K1.out g (HF.out.b1 g hg).2 (fun e => HF.out.d01 g e hg)) l1 (by omega) (by omega)).mono ?_
  rintro e w2 ⟨rfl, m1, o2⟩
  have hz2 : w.heap.size < w2.heap.size := by have := o2.size; omega
  have BA2 : Blk w2 w.heap.size #[.slice a0 n0 c0, .slice a1 n1 c1, .slice a2 n2 c2, .slice a3 n3 c3] := by
    obtain ⟨t, hb⟩ := BA1
    exact ⟨t, (o2.block _ hz1 (HZ.out _ HF.out.b1)).trans hb⟩
  have K2 : Hid (∀ g, g < w.heap.size → (Value.slice a1 n1 c1).ownBlock ≠ some g → w2.heap[g]? = w1.heap[g]?) := fun g hg hn => o2.block g (by omega) (fun e => hn e.symm)
  have M1 : Hid (SE w2 (.slice a1 n1 c1) n1 (fun i q => mV (1 + n0 + 7 * i) q)) := m1
  have BL2 : Hid (Below B w w2) := Below.trans BL1.out (o2.below (fun g hg => (HF.out.b1 g hg).1) (by have := HB.out; omega))
  clear m1 o2 BA1 k0
  have k0 := BA2.cell (i := 2) rfl
  go_wp2_with fail
  refine (markI_any _ n2 F2 _ _ (HF.out.s2.keep fun g hg => (K2.out g (HF.out.b2 g hg).2 (fun e => HF.out.d12 g e hg)).trans (K1.out g (HF.out.b2 g hg).2 (fun e => HF.out.d02 g e hg))) l2 (by omega) (by omega)).mono ?_
  rintro e w3 ⟨rfl, m2, o3⟩
  have hz3 : w.heap.size < w3.heap.size := by have := o3.size; omega
  have BA3 : Blk w3 w.heap.size #[.slice a0 n0 c0, .slice a1 n1 c1, .slice a2 n2 c2, .slice a3 n3 c3] := by
    obtain ⟨t, hb⟩ := BA2
    exact ⟨t, (o3.block _ hz2 (HZ.out _ HF.out.b2)).trans hb⟩
  have K3 : Hid (∀ g, g < w.heap.size → (Value.slice a2 n2 c2).ownBlock ≠ some g → w3.heap[g]? = w2.heap[g]?) := fun g hg hn => o3.block g (by omega) (fun e => hn e.symm)
  have M2 : Hid (SI w3 (.slice a2 n2 c2) n2 (fun i => 1 + n0 + 7 * n1 + i)) := m2
  have BL3 : Hid (Below B w w3) := Below.trans BL2.out (o3.below (fun g hg => (HF.out.b2 g hg).1) (by have := HB.out; omega))
  clear m2 o3 BA2 k0
  have k0 := BA3.cell (i := 3) rfl
  go_wp2_with fail
  refine (markI_any _ n3 F3 _ _ (HF.out.s3.keep fun g hg => (K3.out g (HF.out.b3 g hg).2 (fun e => HF.out.d23 g e hg)).trans ((K2.out g (HF.out.b3 g hg).2 (fun e => HF.out.d13 g e hg)).trans (K1.out g (HF.out.b3 g hg).2 (fun e => HF.out.d03 g e hg)))) l3 (by omega) (by omega)).mono ?_
  rintro e w4 ⟨rfl, m3, o4⟩
  have K4 : Hid (∀ g, g < w.heap.size → (Value.slice a3 n3 c3).ownBlock ≠ some g → w4.heap[g]? = w3.heap[g]?) := fun g hg hn => o4.block g (by omega) (fun e => hn e.symm)
  have M3 : Hid (SI w4 (.slice a3 n3 c3) n3 (fun i => 1 + n0 + 7 * n1 + n2 + i)) := m3
  have BL4 : Hid (Below B w w4) := Below.trans BL3.out (o4.below (fun g hg => (HF.out.b3 g hg).1) (by have := HB.out; omega))
  clear m3 o4 BA3 k0
  go_wp2
  go_ret
  refine ⟨rfl, ⟨?_, ?_, ?_, M3.out⟩, BL4.out, fun b hb x0 x1 x2 x3 => (K4.out b hb x3).trans ((K3.out b hb x2).trans ((K2.out b hb x1).trans (K1.out b hb x0)))⟩
  · exact M0.out.keep fun g hg => (K4.out g (HF.out.b0 g hg).2 (HF.out.d03 g hg)).trans ((K3.out g (HF.out.b0 g hg).2 (HF.out.d02 g hg)).trans (K2.out g (HF.out.b0 g hg).2 (HF.out.d01 g hg)))
  · exact M1.out.keep fun g hg => (K4.out g (HF.out.b1 g hg).2 (HF.out.d13 g hg)).trans (K3.out g (HF.out.b1 g hg).2 (HF.out.d12 g hg))
  · exact M2.out.keep fun g hg => K4.out g (HF.out.b2 g hg).2 (HF.out.d23 g hg)

set_option maxHeartbeats 2000000 in
theorem heldRoad_any (v0 v1 v2 v3 : Value) (n0 n1 n2 n3 : Nat) (w : World) (s0 : SI w v0 n0 (fun i => 1 + i)) (s1 : SE w v1 n1 (fun i q => mV (1 + n0 + 7 * i) q)) (s2 : SI w v2 n2 (fun i => 1 + n0 + 7 * n1 + i)) (s3 : SI w v3 n3 (fun i => 1 + n0 + 7 * n1 + n2 + i))
    (z : ∀ v, v = v0 ∨ v = v1 ∨ v = v2 ∨ v = v3 → ∀ g, v.ownBlock = some g → g < w.heap.size) (l0 : n0 ≤ 1048576) (l1 : n1 ≤ 1048576) (l2 : n2 ≤ 1048576) (l3 : n3 ≤ 1048576) :
    Calls Try.prog 15 #[.agg #[v0, v1, v2, v3], .int .i64 1] w fun e w' => e = .returned (.int .i64 (1 + n0 + 7 * n1 + n2 + n3)) ∧ Nx w w' := by
  have al : ∀ o, ∀ g, g < w.heap.size → (w.alloc o).heap[g]? = w.heap[g]? := fun o g hg => (box1 w o).block g hg
  have S0 : Hid (∀ o, SI (w.alloc o) v0 n0 (fun i => 1 + i)) := fun o => s0.keep fun g hg => al _ g (z v0 (by simp) g hg)
  have S1 : Hid (∀ o, SE (w.alloc o) v1 n1 (fun i q => mV (1 + n0 + 7 * i) q)) := fun o => s1.keep fun g hg => al _ g (z v1 (by simp) g hg)
  have S2 : Hid (∀ o, SI (w.alloc o) v2 n2 (fun i => 1 + n0 + 7 * n1 + i)) := fun o => s2.keep fun g hg => al _ g (z v2 (by simp) g hg)
  have S3 : Hid (∀ o, SI (w.alloc o) v3 n3 (fun i => 1 + n0 + 7 * n1 + n2 + i)) := fun o => s3.keep fun g hg => al _ g (z v3 (by simp) g hg)
  obtain ⟨a0, c0, e0, _⟩ := s0
  obtain ⟨a1, c1, e1, _⟩ := s1
  obtain ⟨a2, c2, e2, _⟩ := s2
  obtain ⟨a3, c3, e3, _⟩ := s3
  subst e0 e1 e2 e3
  clear z al
  go_enter Try.func15, Try.ntmps15
  go_wp2_with fail
  refine (heldI_any _ n0 _ 1 (S0.out _) l0 (by omega) (by omega)).mono ?_
  rintro e w1 ⟨rfl, rfl⟩
  go_wp2_with fail
  refine (heldE_any _ n1 _ _ (S1.out _) l1 (by omega) (by omega)).mono ?_
  rintro e w1 ⟨rfl, rfl⟩
  go_wp2_with fail
  refine (heldI_any _ n2 _ _ (S2.out _) l2 (by omega) (by omega)).mono ?_
  rintro e w1 ⟨rfl, rfl⟩
  go_wp2_with fail
  refine (heldI_any _ n3 _ _ (S3.out _) l3 (by omega) (by omega)).mono ?_
  rintro e w1 ⟨rfl, rfl⟩
  go_wp2
  go_ret
  exact ⟨rfl, box1 _ _⟩
end Go.Proofs.Ytmpkjlknnicdaaa
