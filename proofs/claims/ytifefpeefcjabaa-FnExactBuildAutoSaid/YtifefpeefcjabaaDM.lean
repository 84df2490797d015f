import Derived.Test.YtifefpeefcjabaaDL
namespace Go.Proofs.Ytifefpeefcjabaa
open Go.RowKit Go.Sort Go.Maps
set_option linter.unusedVariables false
set_option maxRecDepth 100000

set_option maxHeartbeats 2000000 in
theorem eqBuilt_same (B B' : Nat) (c : Int) (v0 v1 v2 v3 v4 u0 u1 u2 u3 u4 : Value) (A : Au) (w : World) (h0 : HA B w v0 v1 v2 v3 v4 A) (h1 : HA B' w u0 u1 u2 u3 u4 A) :
    Calls Try.prog 11 #[.agg #[.int .i64 c, v0, v1, v2, v3, v4], .agg #[.int .i64 c, u0, u1, u2, u3, u4]] w fun e w' => e = .returned (.bool true) ∧ Nx w w' := by
  have hd : (c != c) = false := by simp
  go_enter Try.func11, Try.ntmps11
  go_wp2_with fail
  refine (eqAuto_same B B' _ _ _ _ _ _ _ _ _ _ A _ (by exact h0.next (box2 _ _ _)) (by exact h1.next (box2 _ _ _))).mono ?_
  rintro e w1 ⟨rfl, hx⟩
  have HX : Hid (Nx w w1) := (box2 _ _ _).trans hx
  clear hx
  go_wp2
  go_ret
  exact ⟨rfl, HX.out⟩
theorem own_same {C D ty sz : Nat} {w w' : World} {v : Value} {n : Nat} {xs : List Value} (h : w.ownsRow C ty sz v n xs) (hu : ∀ g, v.ownBlock = some g → g < D) (k : ∀ b, C ≤ b → b < D → w'.heap[b]? = w.heap[b]?) : w'.ownsRow C ty sz v n xs := by
  obtain ⟨h1, h2⟩ := h
  refine ⟨h1, ?_⟩
  rcases h2 with h2 | ⟨g, cap, cur, hv, hg, hh, r⟩
  · exact Or.inl h2
  · exact Or.inr ⟨g, cap, cur, hv, hg, (k g hg (hu g (by rw [hv]; rfl))).trans hh, r⟩
/-- the rows lie below D -/
structure UB5 (D : Nat) (v0 v1 v2 v3 v4 : Value) : Prop where
  u0 : ∀ g, v0.ownBlock = some g → g < D
  u1 : ∀ g, v1.ownBlock = some g → g < D
  u2 : ∀ g, v2.ownBlock = some g → g < D
  u3 : ∀ g, v3.ownBlock = some g → g < D
  u4 : ∀ g, v4.ownBlock = some g → g < D
theorem O5.ub {C : Nat} {w : World} {v0 v1 v2 v3 v4 : Value} {A : Au} (h : O5 C w v0 v1 v2 v3 v4 A) : UB5 w.heap.size v0 v1 v2 v3 v4 := ⟨fun g e => (own_lt h.o0 g e).2, fun g e => (own_lt h.o1 g e).2, fun g e => (own_lt h.o2 g e).2, fun g e => (own_lt h.o3 g e).2, fun g e => (own_lt h.o4 g e).2⟩
theorem O5.same {C D : Nat} {w w' : World} {v0 v1 v2 v3 v4 : Value} {A : Au} (h : O5 C w v0 v1 v2 v3 v4 A) (u : UB5 D v0 v1 v2 v3 v4) (k : ∀ b, C ≤ b → b < D → w'.heap[b]? = w.heap[b]?) : O5 C w' v0 v1 v2 v3 v4 A :=
  ⟨own_same h.o0 u.u0 k, own_same h.o1 u.u1 k, own_same h.o2 u.u2 k, own_same h.o3 u.u3 k, own_same h.o4 u.u4 k, h.a01, h.a02, h.a03, h.a12, h.a13, h.a23⟩
theorem O5.ha {C : Nat} {w : World} {v0 v1 v2 v3 v4 : Value} {A : Au} (h : O5 C w v0 v1 v2 v3 v4 A) : HA C w v0 v1 v2 v3 v4 A := ⟨h.o0.held, h.o1.held, h.o2.held, h.o3.held, h.o4.held⟩
theorem O5.ge {C : Nat} {w : World} {v0 v1 v2 v3 v4 : Value} {A : Au} (h : O5 C w v0 v1 v2 v3 v4 A) : ∀ b, b < C → v0.ownBlock ≠ some b ∧ v1.ownBlock ≠ some b ∧ v2.ownBlock ≠ some b ∧ v3.ownBlock ≠ some b ∧ v4.ownBlock ≠ some b := fun b hb => ⟨fun e => by have := (own_lt h.o0 b e).1; omega, fun e => by have := (own_lt h.o1 b e).1; omega, fun e => by have := (own_lt h.o2 b e).1; omega, fun e => by have := (own_lt h.o3 b e).1; omega, fun e => by have := (own_lt h.o4 b e).1; omega⟩
theorem SI.only {o : Option Nat} {w w' : World} {v : Value} {n : Nat} {F : Nat → Int} (h : SI w v n F) (k : Only o w w') (hn : ∀ g, v.ownBlock = some g → o ≠ some g) : SI w' v n F := by
  obtain ⟨a, c, rfl, hk⟩ := h
  refine ⟨a, c, rfl, fun h0 => ?_⟩
  obtain ⟨g, rfl, hr⟩ := hk h0
  exact ⟨g, rfl, hr.of_block (k.block g hr.lt (fun e => hn g rfl e.symm))⟩
theorem SB.only {o : Option Nat} {w w' : World} {v : Value} {n : Nat} {F : Nat → Bool} (h : SB w v n F) (k : Only o w w') (hn : ∀ g, v.ownBlock = some g → o ≠ some g) : SB w' v n F := by
  obtain ⟨a, c, rfl, hk⟩ := h
  refine ⟨a, c, rfl, fun h0 => ?_⟩
  obtain ⟨g, rfl, hr⟩ := hk h0
  exact ⟨g, rfl, hr.of_block (k.block g hr.lt (fun e => hn g rfl e.symm))⟩
theorem Only.nx {o : Option Nat} {w w' : World} (h : Nx w w') : Only o w w' := ⟨h.os, h.tape, h.output, h.size, fun b hb _ => h.block b hb⟩
/-- five open rows apart, all below D -/
structure G5 (D : Nat) (w : World) (v0 v1 v2 v3 v4 : Value) (n0 n1 n2 n3 n4 : Nat) (F0 F1 F2 F3 : Nat → Int) (F4 : Nat → Bool) : Prop where
  s0 : SI w v0 n0 F0
  s1 : SI w v1 n1 F1
  s2 : SI w v2 n2 F2
  s3 : SI w v3 n3 F3
  s4 : SB w v4 n4 F4
  ub : UB5 D v0 v1 v2 v3 v4
  a01 : ∀ b, v0.ownBlock = some b → v1.ownBlock ≠ some b
  a02 : ∀ b, v0.ownBlock = some b → v2.ownBlock ≠ some b
  a03 : ∀ b, v0.ownBlock = some b → v3.ownBlock ≠ some b
  a04 : ∀ b, v0.ownBlock = some b → v4.ownBlock ≠ some b
  a12 : ∀ b, v1.ownBlock = some b → v2.ownBlock ≠ some b
  a13 : ∀ b, v1.ownBlock = some b → v3.ownBlock ≠ some b
  a14 : ∀ b, v1.ownBlock = some b → v4.ownBlock ≠ some b
  a23 : ∀ b, v2.ownBlock = some b → v3.ownBlock ≠ some b
  a24 : ∀ b, v2.ownBlock = some b → v4.ownBlock ≠ some b
  a34 : ∀ b, v3.ownBlock = some b → v4.ownBlock ≠ some b
theorem O5.open {C : Nat} {w : World} {v0 v1 v2 v3 v4 : Value} {A : Au} (h : O5 C w v0 v1 v2 v3 v4 A) : G5 w.heap.size w v0 v1 v2 v3 v4 A.pa.length A.la.length A.fa.length A.mu.length A.bd.length (iat A.pa) (iat A.la) (iat A.fa) (iat A.mu) (bat A.bd) := by
  have key : ∀ {p : Value} {zs : List Int}, OwnI C w p zs → ∀ b, p.ownBlock = some b → v4.ownBlock ≠ some b := fun hp b e e' => by
    rcases own_ne hp h.o4 (by decide) with h1 | h1
    · rw [e] at h1; cases h1
    · exact h1 (e.trans e'.symm)
  exact ⟨h.o0.si, h.o1.si, h.o2.si, h.o3.si, h.o4.sb, h.ub, h.a01, h.a02, h.a03, key h.o0, h.a12, h.a13, key h.o1, h.a23, key h.o2, key h.o3⟩
/-- these five blocks alone may have turned -/
structure On5 (v0 v1 v2 v3 v4 : Value) (w w' : World) : Prop where
  os : w'.os = w.os
  tape : w'.tape = w.tape
  output : w'.output = w.output
  size : w.heap.size ≤ w'.heap.size
  block : ∀ b, b < w.heap.size → (v0.ownBlock ≠ some b ∧ v1.ownBlock ≠ some b ∧ v2.ownBlock ≠ some b ∧ v3.ownBlock ≠ some b ∧ v4.ownBlock ≠ some b) → w'.heap[b]? = w.heap[b]?
theorem On5.nx {v0 v1 v2 v3 v4 : Value} {w w' : World} (h : Nx w w') : On5 v0 v1 v2 v3 v4 w w' := ⟨h.os, h.tape, h.output, h.size, fun b hb _ => h.block b hb⟩
theorem On5.trans {v0 v1 v2 v3 v4 : Value} {a b c : World} (h : On5 v0 v1 v2 v3 v4 a b) (k : On5 v0 v1 v2 v3 v4 b c) : On5 v0 v1 v2 v3 v4 a c := ⟨k.os.trans h.os, k.tape.trans h.tape, k.output.trans h.output, Nat.le_trans h.size k.size, fun g hg hn => (k.block g (Nat.lt_of_lt_of_le hg h.size) hn).trans (h.block g hg hn)⟩
theorem On5.of0 {v0 v1 v2 v3 v4 : Value} {a b : World} (h : Only v0.ownBlock a b) : On5 v0 v1 v2 v3 v4 a b := ⟨h.os, h.tape, h.output, h.size, fun g hg hn => h.block g hg (fun e => hn.1 e.symm)⟩
theorem On5.of1 {v0 v1 v2 v3 v4 : Value} {a b : World} (h : Only v1.ownBlock a b) : On5 v0 v1 v2 v3 v4 a b := ⟨h.os, h.tape, h.output, h.size, fun g hg hn => h.block g hg (fun e => hn.2.1 e.symm)⟩
theorem On5.of2 {v0 v1 v2 v3 v4 : Value} {a b : World} (h : Only v2.ownBlock a b) : On5 v0 v1 v2 v3 v4 a b := ⟨h.os, h.tape, h.output, h.size, fun g hg hn => h.block g hg (fun e => hn.2.2.1 e.symm)⟩
theorem On5.of3 {v0 v1 v2 v3 v4 : Value} {a b : World} (h : Only v3.ownBlock a b) : On5 v0 v1 v2 v3 v4 a b := ⟨h.os, h.tape, h.output, h.size, fun g hg hn => h.block g hg (fun e => hn.2.2.2.1 e.symm)⟩
theorem On5.of4 {v0 v1 v2 v3 v4 : Value} {a b : World} (h : Only v4.ownBlock a b) : On5 v0 v1 v2 v3 v4 a b := ⟨h.os, h.tape, h.output, h.size, fun g hg hn => h.block g hg (fun e => hn.2.2.2.2 e.symm)⟩
theorem On5.below {v0 v1 v2 v3 v4 : Value} {w w' : World} {C : Nat} (h : On5 v0 v1 v2 v3 v4 w w') (hC : C ≤ w.heap.size) (hv : ∀ b, b < C → v0.ownBlock ≠ some b ∧ v1.ownBlock ≠ some b ∧ v2.ownBlock ≠ some b ∧ v3.ownBlock ≠ some b ∧ v4.ownBlock ≠ some b) : Below C w w' := ⟨h.os, h.tape, h.output, h.size, fun b hb => h.block b (by omega) (hv b hb)⟩
theorem Blk.on5 {v0 v1 v2 v3 v4 : Value} {w w' : World} {b : Nat} {cs : Array Value} (h : Blk w b cs) (k : On5 v0 v1 v2 v3 v4 w w') (hv : v0.ownBlock ≠ some b ∧ v1.ownBlock ≠ some b ∧ v2.ownBlock ≠ some b ∧ v3.ownBlock ≠ some b ∧ v4.ownBlock ≠ some b) : Blk w' b cs := by
  have hl := h.lt
  obtain ⟨t, hb⟩ := h
  exact ⟨t, (k.block b hl hv).trans hb⟩
theorem UB5.ne {D b : Nat} {v0 v1 v2 v3 v4 : Value} (h : UB5 D v0 v1 v2 v3 v4) (hb : D ≤ b) : v0.ownBlock ≠ some b ∧ v1.ownBlock ≠ some b ∧ v2.ownBlock ≠ some b ∧ v3.ownBlock ≠ some b ∧ v4.ownBlock ≠ some b := ⟨fun e => by have := h.u0 b e; omega, fun e => by have := h.u1 b e; omega, fun e => by have := h.u2 b e; omega, fun e => by have := h.u3 b e; omega, fun e => by have := h.u4 b e; omega⟩

set_option maxHeartbeats 4000000 in
theorem markAuto_any (D : Nat) (v0 v1 v2 v3 v4 : Value) (n0 n1 n2 n3 n4 : Nat) (F0 F1 F2 F3 : Nat → Int) (F4 : Nat → Bool) (w : World) (h : G5 D w v0 v1 v2 v3 v4 n0 n1 n2 n3 n4 F0 F1 F2 F3 F4) (hD : D ≤ w.heap.size) (h0 : n0 ≤ 2000) (h1 : n1 ≤ 2000) (h2 : n2 ≤ 2000) (h3 : n3 ≤ 2000) (h4 : n4 ≤ 2000) :
    Calls Try.prog 39 #[.agg #[v0, v1, v2, v3, v4], .int .i64 1] w fun e w' => e = .returned (.int .i64 (1 + n0 + n1 + n2 + n3 + n4)) ∧ G5 D w' v0 v1 v2 v3 v4 n0 n1 n2 n3 n4 (fun i => 1 + i) (fun i => 1 + n0 + i) (fun i => 1 + n0 + n1 + i) (fun i => 1 + n0 + n1 + n2 + i) (fun i => m3 (1 + n0 + n1 + n2 + n3 + i)) ∧ On5 v0 v1 v2 v3 v4 w w' := by
  have HG : Hid (G5 D w v0 v1 v2 v3 v4 n0 n1 n2 n3 n4 F0 F1 F2 F3 F4) := h
  have HB0 : Hid (Blk (w.alloc (.cells #[v0, v1, v2, v3, v4] 27)) w.heap.size #[v0, v1, v2, v3, v4]) := Blk.new w _ _ _ rfl
  have HX0 : Hid (Nx w (w.alloc (.cells #[v0, v1, v2, v3, v4] 27))) := box1 _ _
  have HNE : Hid (v0.ownBlock ≠ some w.heap.size ∧ v1.ownBlock ≠ some w.heap.size ∧ v2.ownBlock ≠ some w.heap.size ∧ v3.ownBlock ≠ some w.heap.size ∧ v4.ownBlock ≠ some w.heap.size) := h.ub.ne hD
  have S0 : Hid (SI (w.alloc (.cells #[v0, v1, v2, v3, v4] 27)) v0 n0 F0) := h.s0.only (Only.nx (o := none) (box1 _ _)) (by simp)
  have S1 : Hid (SI (w.alloc (.cells #[v0, v1, v2, v3, v4] 27)) v1 n1 F1) := h.s1.only (Only.nx (o := none) (box1 _ _)) (by simp)
  have S2 : Hid (SI (w.alloc (.cells #[v0, v1, v2, v3, v4] 27)) v2 n2 F2) := h.s2.only (Only.nx (o := none) (box1 _ _)) (by simp)
  have S3 : Hid (SI (w.alloc (.cells #[v0, v1, v2, v3, v4] 27)) v3 n3 F3) := h.s3.only (Only.nx (o := none) (box1 _ _)) (by simp)
  have S4 : Hid (SB (w.alloc (.cells #[v0, v1, v2, v3, v4] 27)) v4 n4 F4) := h.s4.only (Only.nx (o := none) (box1 _ _)) (by simp)
  have ON : Hid (On5 v0 v1 v2 v3 v4 w (w.alloc (.cells #[v0, v1, v2, v3, v4] 27))) := On5.nx (box1 _ _)
  have BX := HB0.out
  clear h HB0
  obtain ⟨b0, e0, hv0⟩ : ∃ a c, v0 = .slice a n0 c := by obtain ⟨a, c, e, _⟩ := HG.out.s0; exact ⟨a, c, e⟩
  obtain ⟨b1, e1, hv1⟩ : ∃ a c, v1 = .slice a n1 c := by obtain ⟨a, c, e, _⟩ := HG.out.s1; exact ⟨a, c, e⟩
  obtain ⟨b2, e2, hv2⟩ : ∃ a c, v2 = .slice a n2 c := by obtain ⟨a, c, e, _⟩ := HG.out.s2; exact ⟨a, c, e⟩
  obtain ⟨b3, e3, hv3⟩ : ∃ a c, v3 = .slice a n3 c := by obtain ⟨a, c, e, _⟩ := HG.out.s3; exact ⟨a, c, e⟩
  obtain ⟨b4, e4, hv4⟩ : ∃ a c, v4 = .slice a n4 c := by obtain ⟨a, c, e, _⟩ := HG.out.s4; exact ⟨a, c, e⟩
  subst hv0 hv1 hv2 hv3 hv4
  go_enter Try.func39, Try.ntmps39
  go_wp2_with fail
  refine (markI_any _ n0 F0 _ _ (by exact S0.out) (by omega) (by omega) (by omega)).mono ?_
  rintro e w1 ⟨rfl, s0, o0⟩
  have T0 : Hid (SI w1 (.slice b0 n0 e0) n0 (fun i => 1 + i)) := s0
  have S1 : Hid (SI w1 (.slice b1 n1 e1) n1 F1) := S1.out.only o0 (fun g e e' => HG.out.a01 g e' e)
  have S2 : Hid (SI w1 (.slice b2 n2 e2) n2 F2) := S2.out.only o0 (fun g e e' => HG.out.a02 g e' e)
  have S3 : Hid (SI w1 (.slice b3 n3 e3) n3 F3) := S3.out.only o0 (fun g e e' => HG.out.a03 g e' e)
  have S4 : Hid (SB w1 (.slice b4 n4 e4) n4 F4) := S4.out.only o0 (fun g e e' => HG.out.a04 g e' e)
  have ON : Hid (On5 (.slice b0 n0 e0) (.slice b1 n1 e1) (.slice b2 n2 e2) (.slice b3 n3 e3) (.slice b4 n4 e4) w w1) := ON.out.trans (On5.of0 o0)
  have BX := o0.blk BX (fun e => HNE.out.1 e.symm)
  clear s0 o0 S0
  have k1 : _ = some (Value.slice b1 n1 e1) := BX.cell (i := 1) rfl
  go_wp2_with fail
  refine (markI_any _ n1 F1 _ _ (by exact S1.out) (by omega) (by omega) (by omega)).mono ?_
  rintro e w2 ⟨rfl, s1, o1⟩
  have T1 : Hid (SI w2 (.slice b1 n1 e1) n1 (fun i => 1 + n0 + i)) := s1
  have T0 : Hid (SI w2 (.slice b0 n0 e0) n0 (fun i => 1 + i)) := T0.out.only o1 (fun g e => HG.out.a01 g e)
  have S2 : Hid (SI w2 (.slice b2 n2 e2) n2 F2) := S2.out.only o1 (fun g e e' => HG.out.a12 g e' e)
  have S3 : Hid (SI w2 (.slice b3 n3 e3) n3 F3) := S3.out.only o1 (fun g e e' => HG.out.a13 g e' e)
  have S4 : Hid (SB w2 (.slice b4 n4 e4) n4 F4) := S4.out.only o1 (fun g e e' => HG.out.a14 g e' e)
  have ON : Hid (On5 (.slice b0 n0 e0) (.slice b1 n1 e1) (.slice b2 n2 e2) (.slice b3 n3 e3) (.slice b4 n4 e4) w w2) := ON.out.trans (On5.of1 o1)
  have BX := o1.blk BX (fun e => HNE.out.2.1 e.symm)
  clear s1 o1 S1 k1
  have k2 : _ = some (Value.slice b2 n2 e2) := BX.cell (i := 2) rfl
  go_wp2_with fail
  refine (markI_any _ n2 F2 _ _ (by exact S2.out) (by omega) (by omega) (by omega)).mono ?_
  rintro e w3 ⟨rfl, s2, o2⟩
  have T2 : Hid (SI w3 (.slice b2 n2 e2) n2 (fun i => 1 + n0 + n1 + i)) := s2
  have T0 : Hid (SI w3 (.slice b0 n0 e0) n0 (fun i => 1 + i)) := T0.out.only o2 (fun g e => HG.out.a02 g e)
  have T1 : Hid (SI w3 (.slice b1 n1 e1) n1 (fun i => 1 + n0 + i)) := T1.out.only o2 (fun g e => HG.out.a12 g e)
  have S3 : Hid (SI w3 (.slice b3 n3 e3) n3 F3) := S3.out.only o2 (fun g e e' => HG.out.a23 g e' e)
  have S4 : Hid (SB w3 (.slice b4 n4 e4) n4 F4) := S4.out.only o2 (fun g e e' => HG.out.a24 g e' e)
  have ON : Hid (On5 (.slice b0 n0 e0) (.slice b1 n1 e1) (.slice b2 n2 e2) (.slice b3 n3 e3) (.slice b4 n4 e4) w w3) := ON.out.trans (On5.of2 o2)
  have BX := o2.blk BX (fun e => HNE.out.2.2.1 e.symm)
  clear s2 o2 S2 k2
  have k3 : _ = some (Value.slice b3 n3 e3) := BX.cell (i := 3) rfl
  go_wp2_with fail
  refine (markI_any _ n3 F3 _ _ (by exact S3.out) (by omega) (by omega) (by omega)).mono ?_
  rintro e w4 ⟨rfl, s3, o3⟩
  have T3 : Hid (SI w4 (.slice b3 n3 e3) n3 (fun i => 1 + n0 + n1 + n2 + i)) := s3
  have T0 : Hid (SI w4 (.slice b0 n0 e0) n0 (fun i => 1 + i)) := T0.out.only o3 (fun g e => HG.out.a03 g e)
  have T1 : Hid (SI w4 (.slice b1 n1 e1) n1 (fun i => 1 + n0 + i)) := T1.out.only o3 (fun g e => HG.out.a13 g e)
  have T2 : Hid (SI w4 (.slice b2 n2 e2) n2 (fun i => 1 + n0 + n1 + i)) := T2.out.only o3 (fun g e => HG.out.a23 g e)
  have S4 : Hid (SB w4 (.slice b4 n4 e4) n4 F4) := S4.out.only o3 (fun g e e' => HG.out.a34 g e' e)
  have ON : Hid (On5 (.slice b0 n0 e0) (.slice b1 n1 e1) (.slice b2 n2 e2) (.slice b3 n3 e3) (.slice b4 n4 e4) w w4) := ON.out.trans (On5.of3 o3)
  have BX := o3.blk BX (fun e => HNE.out.2.2.2.1 e.symm)
  clear s3 o3 S3 k3
  have k4 : _ = some (Value.slice b4 n4 e4) := BX.cell (i := 4) rfl
  go_wp2_with fail
  refine (markB_any _ n4 F4 _ _ (by exact S4.out) (by omega) (by omega) (by omega)).mono ?_
  rintro e w5 ⟨rfl, s4, o4⟩
  have T4 : Hid (SB w5 (.slice b4 n4 e4) n4 (fun i => m3 (1 + n0 + n1 + n2 + n3 + i))) := s4
  have T0 : Hid (SI w5 (.slice b0 n0 e0) n0 (fun i => 1 + i)) := T0.out.only o4 (fun g e => HG.out.a04 g e)
  have T1 : Hid (SI w5 (.slice b1 n1 e1) n1 (fun i => 1 + n0 + i)) := T1.out.only o4 (fun g e => HG.out.a14 g e)
  have T2 : Hid (SI w5 (.slice b2 n2 e2) n2 (fun i => 1 + n0 + n1 + i)) := T2.out.only o4 (fun g e => HG.out.a24 g e)
  have T3 : Hid (SI w5 (.slice b3 n3 e3) n3 (fun i => 1 + n0 + n1 + n2 + i)) := T3.out.only o4 (fun g e => HG.out.a34 g e)
  have ON : Hid (On5 (.slice b0 n0 e0) (.slice b1 n1 e1) (.slice b2 n2 e2) (.slice b3 n3 e3) (.slice b4 n4 e4) w w5) := ON.out.trans (On5.of4 o4)
  have BX := o4.blk BX (fun e => HNE.out.2.2.2.2 e.symm)
  clear s4 o4 S4 k4
  go_wp2
  go_ret
  exact ⟨rfl, ⟨T0.out, T1.out, T2.out, T3.out, T4.out, HG.out.ub, HG.out.a01, HG.out.a02, HG.out.a03, HG.out.a04, HG.out.a12, HG.out.a13, HG.out.a14, HG.out.a23, HG.out.a24, HG.out.a34⟩, ON.out⟩

set_option maxHeartbeats 4000000 in
theorem heldAuto_any (D : Nat) (v0 v1 v2 v3 v4 : Value) (n0 n1 n2 n3 n4 : Nat) (w : World) (h : G5 D w v0 v1 v2 v3 v4 n0 n1 n2 n3 n4 (fun i => 1 + i) (fun i => 1 + n0 + i) (fun i => 1 + n0 + n1 + i) (fun i => 1 + n0 + n1 + n2 + i) (fun i => m3 (1 + n0 + n1 + n2 + n3 + i))) (h0 : n0 ≤ 2000) (h1 : n1 ≤ 2000) (h2 : n2 ≤ 2000) (h3 : n3 ≤ 2000) (h4 : n4 ≤ 2000) :
    Calls Try.prog 40 #[.agg #[v0, v1, v2, v3, v4], .int .i64 1] w fun e w' => e = .returned (.int .i64 (1 + n0 + n1 + n2 + n3 + n4)) ∧ Nx w w' := by
  have HG : Hid (G5 D (w.alloc (.cells #[v0, v1, v2, v3, v4] 27)) v0 v1 v2 v3 v4 n0 n1 n2 n3 n4 (fun i => 1 + i) (fun i => 1 + n0 + i) (fun i => 1 + n0 + n1 + i) (fun i => 1 + n0 + n1 + n2 + i) (fun i => m3 (1 + n0 + n1 + n2 + n3 + i))) := ⟨h.s0.only (Only.nx (o := none) (box1 _ _)) (by simp), h.s1.only (Only.nx (o := none) (box1 _ _)) (by simp), h.s2.only (Only.nx (o := none) (box1 _ _)) (by simp), h.s3.only (Only.nx (o := none) (box1 _ _)) (by simp), h.s4.only (Only.nx (o := none) (box1 _ _)) (by simp), h.ub, h.a01, h.a02, h.a03, h.a04, h.a12, h.a13, h.a14, h.a23, h.a24, h.a34⟩
  clear h
  obtain ⟨b0, e0, hv0⟩ : ∃ a c, v0 = .slice a n0 c := by obtain ⟨a, c, e, _⟩ := HG.out.s0; exact ⟨a, c, e⟩
  obtain ⟨b1, e1, hv1⟩ : ∃ a c, v1 = .slice a n1 c := by obtain ⟨a, c, e, _⟩ := HG.out.s1; exact ⟨a, c, e⟩
  obtain ⟨b2, e2, hv2⟩ : ∃ a c, v2 = .slice a n2 c := by obtain ⟨a, c, e, _⟩ := HG.out.s2; exact ⟨a, c, e⟩
  obtain ⟨b3, e3, hv3⟩ : ∃ a c, v3 = .slice a n3 c := by obtain ⟨a, c, e, _⟩ := HG.out.s3; exact ⟨a, c, e⟩
  obtain ⟨b4, e4, hv4⟩ : ∃ a c, v4 = .slice a n4 c := by obtain ⟨a, c, e, _⟩ := HG.out.s4; exact ⟨a, c, e⟩
  subst hv0 hv1 hv2 hv3 hv4
  have BX := Blk.new w #[.slice b0 n0 e0, .slice b1 n1 e1, .slice b2 n2 e2, .slice b3 n3 e3, .slice b4 n4 e4] 27 _ rfl
  have k0 : _ = some (Value.slice b0 n0 e0) := BX.cell (i := 0) rfl
  have k1 : _ = some (Value.slice b1 n1 e1) := BX.cell (i := 1) rfl
  have k2 : _ = some (Value.slice b2 n2 e2) := BX.cell (i := 2) rfl
  have k3 : _ = some (Value.slice b3 n3 e3) := BX.cell (i := 3) rfl
  have k4 : _ = some (Value.slice b4 n4 e4) := BX.cell (i := 4) rfl
  have d0 : decide (1 + n0 < 0) = false := decide_eq_false (by omega)
  have d1 : decide (1 + (n0 : Int) + n1 < 0) = false := decide_eq_false (by omega)
  have d2 : decide (1 + (n0 : Int) + n1 + n2 < 0) = false := decide_eq_false (by omega)
  have d3 : decide (1 + (n0 : Int) + n1 + n2 + n3 < 0) = false := decide_eq_false (by omega)
  have d4 : decide (1 + (n0 : Int) + n1 + n2 + n3 + n4 < 0) = false := decide_eq_false (by omega)
  clear BX
  go_enter Try.func40, Try.ntmps40
  go_wp2_with fail
  refine (heldI_any _ n0 _ _ (by exact HG.out.s0) (by omega) (by omega) (by omega)).mono ?_
  rintro e w1 ⟨rfl, rfl⟩
  go_wp2_with fail
  refine (heldI_any _ n1 _ _ (by exact HG.out.s1) (by omega) (by omega) (by omega)).mono ?_
  rintro e w2 ⟨rfl, rfl⟩
  go_wp2_with fail
  refine (heldI_any _ n2 _ _ (by exact HG.out.s2) (by omega) (by omega) (by omega)).mono ?_
  rintro e w3 ⟨rfl, rfl⟩
  go_wp2_with fail
  refine (heldI_any _ n3 _ _ (by exact HG.out.s3) (by omega) (by omega) (by omega)).mono ?_
  rintro e w4 ⟨rfl, rfl⟩
  go_wp2_with fail
  refine (heldB_any _ n4 _ _ (by exact HG.out.s4) (by omega) (by omega) (by omega)).mono ?_
  rintro e w5 ⟨rfl, rfl⟩
  go_wp2
  go_ret
  exact ⟨rfl, box1 _ _⟩

set_option maxHeartbeats 2000000 in
theorem markBuilt_any (D : Nat) (c : Int) (v0 v1 v2 v3 v4 : Value) (n0 n1 n2 n3 n4 : Nat) (F0 F1 F2 F3 : Nat → Int) (F4 : Nat → Bool) (w : World) (h : G5 D w v0 v1 v2 v3 v4 n0 n1 n2 n3 n4 F0 F1 F2 F3 F4) (hD : D ≤ w.heap.size) (h0 : n0 ≤ 2000) (h1 : n1 ≤ 2000) (h2 : n2 ≤ 2000) (h3 : n3 ≤ 2000) (h4 : n4 ≤ 2000) :
    Calls Try.prog 14 #[.agg #[.int .i64 c, v0, v1, v2, v3, v4], .int .i64 1] w fun e w' => e = .returned (.int .i64 (1 + n0 + n1 + n2 + n3 + n4)) ∧ G5 D w' v0 v1 v2 v3 v4 n0 n1 n2 n3 n4 (fun i => 1 + i) (fun i => 1 + n0 + i) (fun i => 1 + n0 + n1 + i) (fun i => 1 + n0 + n1 + n2 + i) (fun i => m3 (1 + n0 + n1 + n2 + n3 + i)) ∧ On5 v0 v1 v2 v3 v4 w w' := by
  have HG : Hid (G5 D (w.alloc (.cells #[.int .i64 c, v0, v1, v2, v3, v4] 29)) v0 v1 v2 v3 v4 n0 n1 n2 n3 n4 F0 F1 F2 F3 F4) := ⟨h.s0.only (Only.nx (o := none) (box1 _ _)) (by simp), h.s1.only (Only.nx (o := none) (box1 _ _)) (by simp), h.s2.only (Only.nx (o := none) (box1 _ _)) (by simp), h.s3.only (Only.nx (o := none) (box1 _ _)) (by simp), h.s4.only (Only.nx (o := none) (box1 _ _)) (by simp), h.ub, h.a01, h.a02, h.a03, h.a04, h.a12, h.a13, h.a14, h.a23, h.a24, h.a34⟩
  have ON : Hid (On5 v0 v1 v2 v3 v4 w (w.alloc (.cells #[.int .i64 c, v0, v1, v2, v3, v4] 29))) := On5.nx (box1 _ _)
  clear h
  go_enter Try.func14, Try.ntmps14
  go_wp2_with fail
  refine (markAuto_any D _ _ _ _ _ n0 n1 n2 n3 n4 F0 F1 F2 F3 F4 _ (by exact HG.out) (by rw [size_alloc']; omega) h0 h1 h2 h3 h4).mono ?_
  rintro e w1 ⟨rfl, hg, ho⟩
  have HG1 : Hid (G5 D w1 v0 v1 v2 v3 v4 n0 n1 n2 n3 n4 (fun i => 1 + i) (fun i => 1 + n0 + i) (fun i => 1 + n0 + n1 + i) (fun i => 1 + n0 + n1 + n2 + i) (fun i => m3 (1 + n0 + n1 + n2 + n3 + i))) := hg
  have HO1 : Hid (On5 v0 v1 v2 v3 v4 w w1) := ON.out.trans ho
  clear hg ho
  go_wp2
  go_ret
  exact ⟨rfl, HG1.out, HO1.out⟩

set_option maxHeartbeats 2000000 in
theorem heldBuilt_any (D : Nat) (c : Int) (v0 v1 v2 v3 v4 : Value) (n0 n1 n2 n3 n4 : Nat) (w : World) (h : G5 D w v0 v1 v2 v3 v4 n0 n1 n2 n3 n4 (fun i => 1 + i) (fun i => 1 + n0 + i) (fun i => 1 + n0 + n1 + i) (fun i => 1 + n0 + n1 + n2 + i) (fun i => m3 (1 + n0 + n1 + n2 + n3 + i))) (h0 : n0 ≤ 2000) (h1 : n1 ≤ 2000) (h2 : n2 ≤ 2000) (h3 : n3 ≤ 2000) (h4 : n4 ≤ 2000) :
    Calls Try.prog 15 #[.agg #[.int .i64 c, v0, v1, v2, v3, v4], .int .i64 1] w fun e w' => e = .returned (.int .i64 (1 + n0 + n1 + n2 + n3 + n4)) ∧ Nx w w' := by
  have HG : Hid (G5 D (w.alloc (.cells #[.int .i64 c, v0, v1, v2, v3, v4] 29)) v0 v1 v2 v3 v4 n0 n1 n2 n3 n4 (fun i => 1 + i) (fun i => 1 + n0 + i) (fun i => 1 + n0 + n1 + i) (fun i => 1 + n0 + n1 + n2 + i) (fun i => m3 (1 + n0 + n1 + n2 + n3 + i))) := ⟨h.s0.only (Only.nx (o := none) (box1 _ _)) (by simp), h.s1.only (Only.nx (o := none) (box1 _ _)) (by simp), h.s2.only (Only.nx (o := none) (box1 _ _)) (by simp), h.s3.only (Only.nx (o := none) (box1 _ _)) (by simp), h.s4.only (Only.nx (o := none) (box1 _ _)) (by simp), h.ub, h.a01, h.a02, h.a03, h.a04, h.a12, h.a13, h.a14, h.a23, h.a24, h.a34⟩
  have d4 : decide (1 + (n0 : Int) + n1 + n2 + n3 + n4 < 0) = false := decide_eq_false (by omega)
  have HX0 : Hid (Nx w (w.alloc (.cells #[.int .i64 c, v0, v1, v2, v3, v4] 29))) := box1 _ _
  clear h
  go_enter Try.func15, Try.ntmps15
  go_wp2_with fail
  refine (heldAuto_any D _ _ _ _ _ n0 n1 n2 n3 n4 _ (by exact HG.out) h0 h1 h2 h3 h4).mono ?_
  rintro e w1 ⟨rfl, hx⟩
  have HX1 : Hid (Nx w w1) := HX0.out.trans hx
  clear hx
  go_wp2
  go_ret
  exact ⟨rfl, HX1.out⟩
end Go.Proofs.Ytifefpeefcjabaa
