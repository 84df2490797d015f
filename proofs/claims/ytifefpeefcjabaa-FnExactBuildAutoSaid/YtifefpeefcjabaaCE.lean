import Derived.Test.YtifefpeefcjabaaDA
import Derived.Test.YtifefpeefcjabaaCD
namespace Go.Proofs.Ytifefpeefcjabaa
open Go.RowKit Go.Sort
set_option linter.unusedVariables false
set_option maxRecDepth 100000

def auZ : Au := ⟨[], [], [], [], []⟩
/-- the answer of BuildAuto -/
def BuiltIs (rs : List Ru) (code : Int) (A : Au) : Prop :=
  (rgB rs = false ∧ code = 12 ∧ A = auZ) ∨ (rgB rs = true ∧ ∃ ws, WI rs rs.length 1 ws ∧ ((2000 < ws.length ∧ code = 13 ∧ A = auZ) ∨ (ws.length ≤ 2000 ∧ code = 0 ∧ A = autoOf ws (mustS rs) (badS rs))))
/-- five rows apart -/
structure O5 (C : Nat) (w : World) (p0 p1 p2 p3 p4 : Value) (A : Au) : Prop where
  o0 : OwnI C w p0 A.pa
  o1 : OwnI C w p1 A.la
  o2 : OwnI C w p2 A.fa
  o3 : OwnI C w p3 A.mu
  o4 : OwnB C w p4 A.bd
  a01 : ∀ b, p0.ownBlock = some b → p1.ownBlock ≠ some b
  a02 : ∀ b, p0.ownBlock = some b → p2.ownBlock ≠ some b
  a03 : ∀ b, p0.ownBlock = some b → p3.ownBlock ≠ some b
  a12 : ∀ b, p1.ownBlock = some b → p2.ownBlock ≠ some b
  a13 : ∀ b, p1.ownBlock = some b → p3.ownBlock ≠ some b
  a23 : ∀ b, p2.ownBlock = some b → p3.ownBlock ≠ some b
theorem own_base {C C' ty sz : Nat} {w : World} {v : Value} {n : Nat} {xs : List Value} (h : w.ownsRow C ty sz v n xs) (hB : C' ≤ C) : w.ownsRow C' ty sz v n xs := by
  obtain ⟨h1, h2⟩ := h
  refine ⟨h1, ?_⟩
  rcases h2 with h2 | ⟨g, cap, cur, hv, hg, r⟩
  · exact Or.inl h2
  · exact Or.inr ⟨g, cap, cur, hv, by omega, r⟩
theorem own_slice {C ty sz : Nat} {w : World} {v : Value} {n : Nat} {xs : List Value} (h : w.ownsRow C ty sz v n xs) : ∃ a m c, v = .slice a m c := by
  rcases h.2 with ⟨h2, _⟩ | ⟨g, cap, cur, hv, _⟩
  · exact ⟨_, _, _, h2⟩
  · exact ⟨_, _, _, hv⟩
theorem O5.base {C C' : Nat} {w : World} {p0 p1 p2 p3 p4 : Value} {A : Au} (h : O5 C w p0 p1 p2 p3 p4 A) (hC : C' ≤ C) : O5 C' w p0 p1 p2 p3 p4 A :=
  ⟨own_base h.o0 hC, own_base h.o1 hC, own_base h.o2 hC, own_base h.o3 hC, own_base h.o4 hC, h.a01, h.a02, h.a03, h.a12, h.a13, h.a23⟩
theorem O5.next {C : Nat} {w w' : World} {p0 p1 p2 p3 p4 : Value} {A : Au} (h : O5 C w p0 p1 p2 p3 p4 A) (k : Nx w w') : O5 C w' p0 p1 p2 p3 p4 A :=
  ⟨own_next h.o0 k, own_next h.o1 k, own_next h.o2 k, own_next h.o3 k, own_next h.o4 k, h.a01, h.a02, h.a03, h.a12, h.a13, h.a23⟩
theorem O5.nil (C : Nat) (w : World) : O5 C w (.slice none 0 0) (.slice none 0 0) (.slice none 0 0) (.slice none 0 0) (.slice none 0 0) auZ :=
  ⟨⟨rfl, Or.inl ⟨rfl, rfl⟩⟩, ⟨rfl, Or.inl ⟨rfl, rfl⟩⟩, ⟨rfl, Or.inl ⟨rfl, rfl⟩⟩, ⟨rfl, Or.inl ⟨rfl, rfl⟩⟩, ⟨rfl, Or.inl ⟨rfl, rfl⟩⟩, fun b e => by simp [Value.ownBlock] at e, fun b e => by simp [Value.ownBlock] at e, fun b e => by simp [Value.ownBlock] at e, fun b e => by simp [Value.ownBlock] at e, fun b e => by simp [Value.ownBlock] at e, fun b e => by simp [Value.ownBlock] at e⟩
theorem R5.five {C g : Nat} {w : World} {p0 p1 p2 p3 p4 : Value} {A : Au} (h : R5 C g w p0 p1 p2 p3 p4 A) : O5 C w p0 p1 p2 p3 p4 A :=
  ⟨h.o0, h.o1, h.o2, h.o3, h.o4, h.a01, h.a02, h.a03, h.a12, h.a13, h.a23⟩
/-- five rows in a box, as slices -/
def RS (g : Nat) (w : World) (A : Au) : Prop := ∃ a0 n0 c0 a1 n1 c1 a2 n2 c2 a3 n3 c3 a4 n4 c4, R5 (g + 1) g w (.slice a0 n0 c0) (.slice a1 n1 c1) (.slice a2 n2 c2) (.slice a3 n3 c3) (.slice a4 n4 c4) A
theorem RS.of {g : Nat} {w : World} {p0 p1 p2 p3 p4 : Value} {A : Au} (h : R5 (g + 1) g w p0 p1 p2 p3 p4 A) : RS g w A := by
  obtain ⟨a0, c0, e0⟩ := h.o0.slice
  obtain ⟨a1, c1, e1⟩ := h.o1.slice
  obtain ⟨a2, c2, e2⟩ := h.o2.slice
  obtain ⟨a3, c3, e3⟩ := h.o3.slice
  obtain ⟨a4, c4, e4⟩ := h.o4.slice
  subst e0 e1 e2 e3 e4
  exact ⟨_, _, _, _, _, _, _, _, _, _, _, _, _, _, _, h⟩
/-- the first states of an automaton, field by field -/
def auK (ws : List (List Int)) (f0 f1 f2 f3 : List Int → Int) (f4 : List Int → Bool) (j0 j1 j2 j3 j4 : Nat) : Au := ⟨(ws.take j0).map f0, (ws.take j1).map f1, (ws.take j2).map f2, (ws.take j3).map f3, (ws.take j4).map f4⟩
theorem take_snoc {α : Type} {ws : List (List Int)} (f : List Int → α) {k : Nat} {z : α} (hk : k < ws.length) (hz : z = f (wd ws k)) : (ws.take (k + 1)).map f = (ws.take k).map f ++ [z] := by
  rw [List.take_succ_eq_append_getElem hk, List.map_append, hz]
  simp [wd, List.getD, hk]
section
variable {ws : List (List Int)} {f0 f1 f2 f3 : List Int → Int} {f4 : List Int → Bool} {k j0 j1 j2 j3 j4 : Nat}
theorem auK0 {z : Int} (hk : k < ws.length) (hz : z = f0 (wd ws k)) : { auK ws f0 f1 f2 f3 f4 k j1 j2 j3 j4 with pa := (auK ws f0 f1 f2 f3 f4 k j1 j2 j3 j4).pa ++ [z] } = auK ws f0 f1 f2 f3 f4 (k + 1) j1 j2 j3 j4 := by
  simp only [auK]
  rw [take_snoc f0 hk hz]
theorem RS.of0 {g : Nat} {w : World} {p0 p1 p2 p3 p4 : Value} {z : Int} (h : R5 (g + 1) g w p0 p1 p2 p3 p4 { auK ws f0 f1 f2 f3 f4 k j1 j2 j3 j4 with pa := (auK ws f0 f1 f2 f3 f4 k j1 j2 j3 j4).pa ++ [z] }) (hk : k < ws.length) (hz : z = f0 (wd ws k)) : RS g w (auK ws f0 f1 f2 f3 f4 (k + 1) j1 j2 j3 j4) := by
  rw [auK0 hk hz] at h
  exact RS.of h
theorem auK1 {z : Int} (hk : k < ws.length) (hz : z = f1 (wd ws k)) : { auK ws f0 f1 f2 f3 f4 j0 k j2 j3 j4 with la := (auK ws f0 f1 f2 f3 f4 j0 k j2 j3 j4).la ++ [z] } = auK ws f0 f1 f2 f3 f4 j0 (k + 1) j2 j3 j4 := by
  simp only [auK]
  rw [take_snoc f1 hk hz]
theorem RS.of1 {g : Nat} {w : World} {p0 p1 p2 p3 p4 : Value} {z : Int} (h : R5 (g + 1) g w p0 p1 p2 p3 p4 { auK ws f0 f1 f2 f3 f4 j0 k j2 j3 j4 with la := (auK ws f0 f1 f2 f3 f4 j0 k j2 j3 j4).la ++ [z] }) (hk : k < ws.length) (hz : z = f1 (wd ws k)) : RS g w (auK ws f0 f1 f2 f3 f4 j0 (k + 1) j2 j3 j4) := by
  rw [auK1 hk hz] at h
  exact RS.of h
theorem auK2 {z : Int} (hk : k < ws.length) (hz : z = f2 (wd ws k)) : { auK ws f0 f1 f2 f3 f4 j0 j1 k j3 j4 with fa := (auK ws f0 f1 f2 f3 f4 j0 j1 k j3 j4).fa ++ [z] } = auK ws f0 f1 f2 f3 f4 j0 j1 (k + 1) j3 j4 := by
  simp only [auK]
  rw [take_snoc f2 hk hz]
theorem RS.of2 {g : Nat} {w : World} {p0 p1 p2 p3 p4 : Value} {z : Int} (h : R5 (g + 1) g w p0 p1 p2 p3 p4 { auK ws f0 f1 f2 f3 f4 j0 j1 k j3 j4 with fa := (auK ws f0 f1 f2 f3 f4 j0 j1 k j3 j4).fa ++ [z] }) (hk : k < ws.length) (hz : z = f2 (wd ws k)) : RS g w (auK ws f0 f1 f2 f3 f4 j0 j1 (k + 1) j3 j4) := by
  rw [auK2 hk hz] at h
  exact RS.of h
theorem auK3 {z : Int} (hk : k < ws.length) (hz : z = f3 (wd ws k)) : { auK ws f0 f1 f2 f3 f4 j0 j1 j2 k j4 with mu := (auK ws f0 f1 f2 f3 f4 j0 j1 j2 k j4).mu ++ [z] } = auK ws f0 f1 f2 f3 f4 j0 j1 j2 (k + 1) j4 := by
  simp only [auK]
  rw [take_snoc f3 hk hz]
theorem RS.of3 {g : Nat} {w : World} {p0 p1 p2 p3 p4 : Value} {z : Int} (h : R5 (g + 1) g w p0 p1 p2 p3 p4 { auK ws f0 f1 f2 f3 f4 j0 j1 j2 k j4 with mu := (auK ws f0 f1 f2 f3 f4 j0 j1 j2 k j4).mu ++ [z] }) (hk : k < ws.length) (hz : z = f3 (wd ws k)) : RS g w (auK ws f0 f1 f2 f3 f4 j0 j1 j2 (k + 1) j4) := by
  rw [auK3 hk hz] at h
  exact RS.of h
theorem auK4 {z : Bool} (hk : k < ws.length) (hz : z = f4 (wd ws k)) : { auK ws f0 f1 f2 f3 f4 j0 j1 j2 j3 k with bd := (auK ws f0 f1 f2 f3 f4 j0 j1 j2 j3 k).bd ++ [z] } = auK ws f0 f1 f2 f3 f4 j0 j1 j2 j3 (k + 1) := by
  simp only [auK]
  rw [take_snoc f4 hk hz]
theorem RS.of4 {g : Nat} {w : World} {p0 p1 p2 p3 p4 : Value} {z : Bool} (h : R5 (g + 1) g w p0 p1 p2 p3 p4 { auK ws f0 f1 f2 f3 f4 j0 j1 j2 j3 k with bd := (auK ws f0 f1 f2 f3 f4 j0 j1 j2 j3 k).bd ++ [z] }) (hk : k < ws.length) (hz : z = f4 (wd ws k)) : RS g w (auK ws f0 f1 f2 f3 f4 j0 j1 j2 j3 (k + 1)) := by
  rw [auK4 hk hz] at h
  exact RS.of h
theorem auK_len (hk : k ≤ 2000) (f : List Int → Int) : ((ws.take k).map f).length ≤ 2000 := by rw [List.length_map, List.length_take]; omega
theorem auK_lenB (hk : k ≤ 2000) (f : List Int → Bool) : ((ws.take k).map f).length ≤ 2000 := by rw [List.length_map, List.length_take]; omega
end
def fPa (ws : List (List Int)) (x : List Int) : Int := if x = [] then -1 else stW ws x.dropLast
def fFa (ws : List (List Int)) (x : List Int) : Int := if x = [] then -1 else LW ws x 1
theorem auK_all (ws : List (List Int)) (mu : List Int → Int) (bd : List Int → Bool) : auK ws (fPa ws) lastE (fFa ws) mu bd ws.length ws.length ws.length ws.length ws.length = autoOf ws mu bd := by
  simp [auK, autoOf, fPa, fFa]
theorem R5.start (w : World) (t : TypeId) : R5 (w.heap.size + 1) w.heap.size (w.alloc (.cells #[.slice none 0 0, .slice none 0 0, .slice none 0 0, .slice none 0 0, .slice none 0 0] t)) (.slice none 0 0) (.slice none 0 0) (.slice none 0 0) (.slice none 0 0) (.slice none 0 0) auZ := by
  have h := O5.nil (w.heap.size + 1) (w.alloc (.cells #[.slice none 0 0, .slice none 0 0, .slice none 0 0, .slice none 0 0, .slice none 0 0] t))
  exact ⟨Nat.lt_succ_self _, Blk.new w _ _ _ rfl, h.o0, h.o1, h.o2, h.o3, h.o4, h.a01, h.a02, h.a03, h.a12, h.a13, h.a23⟩
def SpE (rs : List Ru) (w w' : World) (e : Ending) : Prop := ∃ (code : Int) (a0 : Option Addr) (n0 c0 : Nat) (a1 : Option Addr) (n1 c1 : Nat) (a2 : Option Addr) (n2 c2 : Nat) (a3 : Option Addr) (n3 c3 : Nat) (a4 : Option Addr) (n4 c4 : Nat) (A : Au), e = .returned (.agg #[.int .i64 code, .slice a0 n0 c0, .slice a1 n1 c1, .slice a2 n2 c2, .slice a3 n3 c3, .slice a4 n4 c4]) ∧ BuiltIs rs code A ∧ O5 w.heap.size w' (.slice a0 n0 c0) (.slice a1 n1 c1) (.slice a2 n2 c2) (.slice a3 n3 c3) (.slice a4 n4 c4) A
theorem O5.spe {rs : List Ru} {w w' : World} {code : Int} {a0 : Option Addr} {n0 c0 : Nat} { a1 : Option Addr} {n1 c1 : Nat} { a2 : Option Addr} {n2 c2 : Nat} { a3 : Option Addr} {n3 c3 : Nat} { a4 : Option Addr} {n4 c4 : Nat} {A : Au} (h : O5 w.heap.size w' (.slice a0 n0 c0) (.slice a1 n1 c1) (.slice a2 n2 c2) (.slice a3 n3 c3) (.slice a4 n4 c4) A) (hb : BuiltIs rs code A) : SpE rs w w' (.returned (.agg #[.int .i64 code, .slice a0 n0 c0, .slice a1 n1 c1, .slice a2 n2 c2, .slice a3 n3 c3, .slice a4 n4 c4])) := ⟨_, _, _, _, _, _, _, _, _, _, _, _, _, _, _, _, _, rfl, hb, h⟩
theorem lastE_iat {x : List Int} {m : Nat} (h : x.length = m + 1) : lastE x = iat x m := by
  unfold lastE iat
  rw [List.getLast?_eq_getElem?, h, Nat.add_sub_cancel, List.getD_eq_getElem?_getD, List.getElem?_eq_getElem (by omega)]
  rfl

set_option maxHeartbeats 8000000 in
theorem specBuild_any (B : Nat) (v : Value) (rs : List Ru) (w : World) (h0 : HRules B w v rs) :
    Calls Try.prog 8 #[v] w fun e w' => SpE rs w w' e ∧ Nx w w' := by
  obtain ⟨ii, hi, hz0, hz1, hz2⟩ := info_parts infoInt
  obtain ⟨jj, hj0, hj1, hj2, hj3⟩ := info_parts infoBool
  have HH : Hid (HRules B w v rs) := h0
  have HX0 : Hid (Nx w (w.alloc (.cells #[.int .i64 0, .slice none 0 0, .slice none 0 0, .slice none 0 0, .slice none 0 0, .slice none 0 0] 29))) := box1 _ _
  obtain ⟨va, vc, rfl, _, _⟩ := h0
  go_enter Try.func8, Try.ntmps8
  go_wp2_with fail
  refine (l3RulesGood_any B _ rs _ (HH.out.next HX0.out)).mono ?_
  rintro e w1 ⟨rfl, rfl⟩
  have BX := Blk.new w #[.int .i64 0, .slice none 0 0, .slice none 0 0, .slice none 0 0, .slice none 0 0, .slice none 0 0] 29 _ rfl
  cases hg : rgB rs
  case false =>
    have k0 : _ = some (Value.int .i64 0) := BX.cell (i := 0) rfl
    have k1 : _ = some (Value.slice none 0 0) := BX.cell (i := 1) rfl
    have k2 : _ = some (Value.slice none 0 0) := BX.cell (i := 2) rfl
    have k3 : _ = some (Value.slice none 0 0) := BX.cell (i := 3) rfl
    have k4 : _ = some (Value.slice none 0 0) := BX.cell (i := 4) rfl
    have k5 : _ = some (Value.slice none 0 0) := BX.cell (i := 5) rfl
    have HB : Hid (BuiltIs rs 12 auZ) := Or.inl ⟨hg, rfl, rfl⟩
    clear BX hg
    go_wp2
    refine bodyPost_ret (v := .agg #[.int .i64 12, .slice none 0 0, .slice none 0 0, .slice none 0 0, .slice none 0 0, .slice none 0 0]) (by simp [results, Try.results8, go_sem]) rfl ?_
    refine ⟨O5.spe (O5.nil _ _) HB.out, ?_⟩
    exact box1 _ _
  have HG : Hid (rgB rs = true) := hg
  clear hg
  go_wp2_with fail
  refine (l3Words_any B _ rs _ (HH.out.next HX0.out) (fun i hi => ⟨(rg_at HG.out hi).1, (rg_at HG.out hi).2.1⟩)).mono ?_
  rintro e w2 ⟨⟨v2, ws, rfl, hW, hI⟩, hx⟩
  have HX2 : Hid (Nx w w2) := HX0.out.trans hx
  have BX2 := BX.next hx
  have HWO : Hid (HWords 0 w2 v2 ws) := hW.held hx
  obtain ⟨wa, wc, hvs⟩ := hW.slice
  subst hvs
  have HI : Hid (WI rs rs.length 1 ws) := hI
  clear hW hI hx BX
  generalize hzn : ws.length = n at *
  have HZ : Hid (ws.length = n) := hzn
  clear hzn
  by_cases hbig : n ≤ 2000
  case neg =>
    have d1 : decide (2000 < (n : Int)) = true := by simp; omega
    have k0 : _ = some (Value.int .i64 0) := BX2.cell (i := 0) rfl
    have k1 : _ = some (Value.slice none 0 0) := BX2.cell (i := 1) rfl
    have k2 : _ = some (Value.slice none 0 0) := BX2.cell (i := 2) rfl
    have k3 : _ = some (Value.slice none 0 0) := BX2.cell (i := 3) rfl
    have k4 : _ = some (Value.slice none 0 0) := BX2.cell (i := 4) rfl
    have k5 : _ = some (Value.slice none 0 0) := BX2.cell (i := 5) rfl
    have z0 := BX2.frozen 0
    have z1 := BX2.frozen 1
    have z2 := BX2.frozen 2
    have z3 := BX2.frozen 3
    have z4 := BX2.frozen 4
    have z5 := BX2.frozen 5
    have HB : Hid (BuiltIs rs 13 auZ) := Or.inr ⟨HG.out, ws, HI.out, Or.inl ⟨by rw [HZ.out]; omega, rfl, rfl⟩⟩
    clear hbig
    go_wp2
    have BR' := ((((((BX2).set 0 (.int .i64 13)).set 1 (.slice none 0 0)).set 2 (.slice none 0 0)).set 3 (.slice none 0 0)).set 4 (.slice none 0 0)).set 5 (.slice none 0 0)
    have q0 : _ = some (Value.int .i64 13) := BR'.cell (i := 0) rfl
    have q1 : _ = some (Value.slice none 0 0) := BR'.cell (i := 1) rfl
    have q2 : _ = some (Value.slice none 0 0) := BR'.cell (i := 2) rfl
    have q3 : _ = some (Value.slice none 0 0) := BR'.cell (i := 3) rfl
    have q4 : _ = some (Value.slice none 0 0) := BR'.cell (i := 4) rfl
    have q5 : _ = some (Value.slice none 0 0) := BR'.cell (i := 5) rfl
    clear k0 k1 k2 k3 k4 k5 BR'
    refine bodyPost_ret (v := .agg #[.int .i64 13, .slice none 0 0, .slice none 0 0, .slice none 0 0, .slice none 0 0, .slice none 0 0]) (by simp [results, Try.results8, go_sem, q0, q1, q2, q3, q4, q5]) rfl ?_
    refine ⟨O5.spe (O5.nil _ _) HB.out, ?_⟩
    exact (Below.setCell (Below.setCell (Below.setCell (Below.setCell (Below.setCell (Below.setCell HX2.out (Nat.le_refl _) _) (Nat.le_refl _) _) (Nat.le_refl _) _) (Nat.le_refl _) _) (Nat.le_refl _) _) (Nat.le_refl _) _)
  have d1 : decide (2000 < (n : Int)) = false := by simp; omega
  have HB : Hid (BuiltIs rs 0 (autoOf ws (mustS rs) (badS rs))) := Or.inr ⟨HG.out, ws, HI.out, Or.inr ⟨by rw [HZ.out]; exact hbig, rfl, rfl⟩⟩
  have HRS0 : Hid (RS w2.heap.size (w2.alloc (.cells #[.slice none 0 0, .slice none 0 0, .slice none 0 0, .slice none 0 0, .slice none 0 0] 27)) (auK ws (fPa ws) lastE (fFa ws) (mustS rs) (badS rs) 0 0 0 0 0)) := RS.of (by simpa [auK, auZ] using R5.start w2 27)
  have HN0 : Hid (Nx w2 (w2.alloc (.cells #[.slice none 0 0, .slice none 0 0, .slice none 0 0, .slice none 0 0, .slice none 0 0] 27))) := box1 _ _
  have HBX : Hid (Blk w2 w.heap.size #[.int .i64 0, .slice none 0 0, .slice none 0 0, .slice none 0 0, .slice none 0 0, .slice none 0 0]) := BX2
  have HASC : Hid (AscW ws) := HI.out.asc
  have HROOT : Hid (wd ws 0 = []) := (ws_of_wi HG.out HI.out (by rw [HZ.out]; exact hbig)).root
  have HNE : Hid (∀ s, 1 ≤ s → s < n → wd ws s ≠ [] ∧ (wd ws s).length ≤ 402) := fun s h1 hs => ⟨(ws_of_wi HG.out HI.out (by rw [HZ.out]; exact hbig)).ne h1 (by rw [HZ.out]; exact hs), wi_len HG.out HI.out (by rw [HZ.out]; exact hs)⟩
  have HRN : Hid (HRules B w2 (.slice va rs.length vc) rs) := HH.out.next HX2.out
  have hnp : 0 < n := by have := HI.out.l0; rw [HZ.out] at this; exact this
  have HZB : Hid (w.heap.size < w2.heap.size) := BX2.lt
  clear BX2 HH HI HX0
  go_wp2
  clear d1
  go_loopw [5, 6] (fun i _ wr => ∃ k : Nat, k ≤ n ∧ i = .int .i64 k ∧ Hid (RS w2.heap.size wr (auK ws (fPa ws) lastE (fFa ws) (mustS rs) (badS rs) k k k k k)) ∧ Hid (Nx w2 wr)) (fun i _ _ => n - (intOf i).toNat)
  case atStart => exact ⟨0, Nat.zero_le _, rfl, HRS0, HN0⟩
  clear HRS0 HN0
  obtain ⟨k, hkn, rfl, HRS, HN⟩ := hrel
  by_cases hlt : k < n
  case neg =>
    have ek : n = k := by omega
    obtain ⟨a0, n0, c0, a1, n1, c1, a2, n2, c2, a3, n3, c3, a4, n4, c4, hR⟩ := HRS.out
    have HR : Hid (R5 (w2.heap.size + 1) w2.heap.size wr (.slice a0 n0 c0) (.slice a1 n1 c1) (.slice a2 n2 c2) (.slice a3 n3 c3) (.slice a4 n4 c4) (autoOf ws (mustS rs) (badS rs))) := by
      unfold Hid
      rw [← auK_all, HZ.out, ek]
      exact hR
    have BB := HBX.out.next HN.out
    have k0 : _ = some (Value.int .i64 0) := BB.cell (i := 0) rfl
    have k1 : _ = some (Value.slice none 0 0) := BB.cell (i := 1) rfl
    have k2 : _ = some (Value.slice none 0 0) := BB.cell (i := 2) rfl
    have k3 : _ = some (Value.slice none 0 0) := BB.cell (i := 3) rfl
    have k4 : _ = some (Value.slice none 0 0) := BB.cell (i := 4) rfl
    have k5 : _ = some (Value.slice none 0 0) := BB.cell (i := 5) rfl
    have z0 := BB.frozen 0
    have z1 := BB.frozen 1
    have z2 := BB.frozen 2
    have z3 := BB.frozen 3
    have z4 := BB.frozen 4
    have z5 := BB.frozen 5
    have y0 : _ = some (Value.slice a0 n0 c0) := hR.bx.cell (i := 0) rfl
    have y1 : _ = some (Value.slice a1 n1 c1) := hR.bx.cell (i := 1) rfl
    have y2 : _ = some (Value.slice a2 n2 c2) := hR.bx.cell (i := 2) rfl
    have y3 : _ = some (Value.slice a3 n3 c3) := hR.bx.cell (i := 3) rfl
    have y4 : _ = some (Value.slice a4 n4 c4) := hR.bx.cell (i := 4) rfl
    have HW : Hid (Nx w wr) := HX2.out.trans HN.out
    have HO : Hid (O5 w2.heap.size wr (.slice a0 n0 c0) (.slice a1 n1 c1) (.slice a2 n2 c2) (.slice a3 n3 c3) (.slice a4 n4 c4) (autoOf ws (mustS rs) (badS rs))) := HR.out.five.base (Nat.le_succ _)
    clear hR ek HRS HR
    go_wp2
    have BR' := ((((((BB).set 0 (.int .i64 0)).set 1 (.slice a0 n0 c0)).set 2 (.slice a1 n1 c1)).set 3 (.slice a2 n2 c2)).set 4 (.slice a3 n3 c3)).set 5 (.slice a4 n4 c4)
    have q0 : _ = some (Value.int .i64 0) := BR'.cell (i := 0) rfl
    have q1 : _ = some (Value.slice a0 n0 c0) := BR'.cell (i := 1) rfl
    have q2 : _ = some (Value.slice a1 n1 c1) := BR'.cell (i := 2) rfl
    have q3 : _ = some (Value.slice a2 n2 c2) := BR'.cell (i := 3) rfl
    have q4 : _ = some (Value.slice a3 n3 c3) := BR'.cell (i := 4) rfl
    have q5 : _ = some (Value.slice a4 n4 c4) := BR'.cell (i := 5) rfl
    clear k0 k1 k2 k3 k4 k5 BR'
    refine bodyPost_ret (v := .agg #[.int .i64 0, .slice a0 n0 c0, .slice a1 n1 c1, .slice a2 n2 c2, .slice a3 n3 c3, .slice a4 n4 c4]) (by simp [results, Try.results8, go_sem, q0, q1, q2, q3, q4, q5]) rfl ?_
    have hk5 : ∀ (wq : World) (i : Nat) (u : Value), O5 w2.heap.size wq (.slice a0 n0 c0) (.slice a1 n1 c1) (.slice a2 n2 c2) (.slice a3 n3 c3) (.slice a4 n4 c4) (autoOf ws (mustS rs) (badS rs)) → O5 w2.heap.size (wq.setCell ⟨w.heap.size, i, none⟩ u) (.slice a0 n0 c0) (.slice a1 n1 c1) (.slice a2 n2 c2) (.slice a3 n3 c3) (.slice a4 n4 c4) (autoOf ws (mustS rs) (badS rs)) := fun wq i u h => ⟨own_store h.o0 HZB.out _ _, own_store h.o1 HZB.out _ _, own_store h.o2 HZB.out _ _, own_store h.o3 HZB.out _ _, own_store h.o4 HZB.out _ _, h.a01, h.a02, h.a03, h.a12, h.a13, h.a23⟩
    refine ⟨O5.spe (O5.base (?_ : O5 w2.heap.size _ _ _ _ _ _ _) (Nat.le_of_lt HZB.out)) HB.out, ?_⟩
    · exact (hk5 _ _ _ (hk5 _ _ _ (hk5 _ _ _ (hk5 _ _ _ (hk5 _ _ _ (hk5 _ _ _ HO.out))))))
    · exact (Below.setCell (Below.setCell (Below.setCell (Below.setCell (Below.setCell (Below.setCell HW.out (Nat.le_refl _) _) (Nat.le_refl _) _) (Nat.le_refl _) _) (Nat.le_refl _) _) (Nat.le_refl _) _) (Nat.le_refl _) _)
  obtain ⟨wa', wc', e', hwn, hwk⟩ := HWO.out
  simp only [Value.slice.injEq] at e'
  obtain ⟨rfl, hqq, rfl⟩ := e'
  rw [HZ.out] at hwk
  clear hqq
  obtain ⟨b, off, rfl, _, hb, hc⟩ := hwk hnp
  obtain ⟨vk, ck, hvk, cpk⟩ := hc k hlt
  obtain ⟨xa, xn, xc, rfl, hxc⟩ := cpk
  have hck : wr.cell? ⟨b, off + k, none⟩ = some (.slice xa xn xc) := cellq HN.out ck
  have hlt' : (k : Int) < n := by omega
  have HKN : Hid (k < ws.length) := by unfold Hid; rw [HZ.out]; exact hlt
  have hk2 : k ≤ 2000 := by omega
  have HXX : Hid (HInts 0 w2 (.slice xa xn xc) (wd ws k)) := hvk
  have HCAP : Hid (xn ≤ xc) := hxc
  obtain ⟨xa', xc', e', hxm, hxk⟩ := hvk
  simp only [Value.slice.injEq] at e'
  obtain ⟨rfl, hxl, rfl⟩ := e'
  have HXL : Hid ((wd ws k).length = xn) := hxl.symm
  rw [← hxl] at hxk hxm
  unfold maxLen at hxm
  clear hwk hc ck hxl
  by_cases hk0 : k = 0
  · have hx0 : xn = 0 := by rw [← HXL.out, hk0, HROOT.out]; rfl
    have HWK : Hid (wd ws k = []) := by unfold Hid; rw [hk0]; exact HROOT.out
    subst hx0
    clear hxk hk0
    go_upto_region 12 with fail
    go_cut [5, 6] from 18 to 93 (fun s5 s6 wc => s5 = .int .i64 k ∧ s6 = .slice xa 0 xc ∧ Hid (RS w2.heap.size wc (auK ws (fPa ws) lastE (fFa ws) (mustS rs) (badS rs) (k + 1) k k k k)) ∧ Hid (Nx w2 wc))
    case first =>
      obtain ⟨a0, n0, c0, a1, n1, c1, a2, n2, c2, a3, n3, c3, a4, n4, c4, hR0⟩ := HRS.out
      have hR : Hid _ := hR0
      clear hR0
      have R4 : Hid _ := hR.out
      have hlow4 : Hid _ := HN.out
      have y4 : _ = some (Value.slice a0 n0 c0) := hR.out.bx.cell (i := 0) rfl
      have z4 := hR.out.bx.frozen 0
      go_wp2_with (at_builtin; refine wpList_append_own_at _ rfl _ _ 24 rfl (w2.heap.size + 1) 2 ii (.int .i64 0) 1 8 Try.underlying24 hi hz0 hz1 hz2 rfl (by decide) _ _ _ rfl (World.ownsRow.alloc R4.out.o0 _) ⟨_, 0, none⟩ 1 1 [.int .i64 (-1)] rfl rfl (fun j u hj => new_cells _ _ _ _ rfl j u hj) (by intro u hu; simp at hu; subst hu; rfl) (by have := auK_len (ws := ws) (k := k) hk2 (fPa ws); unfold maxLen; simp only [auK]; omega) (by have := auK_len (ws := ws) (k := k) hk2 (fPa ws); simp only [auK]; omega) (by have := R4.out.bx.lt; rw [size_alloc']; omega) ?_)
      intro v' w' hown hgrow _ hat
      obtain ⟨ra, rn, rc, hrs⟩ := own_slice hown
      subst hrs
      have hbx := (R4.out.box0 _ hgrow).1
      have hfz := (R4.out.box0 _ hgrow).2
      have R' : Hid _ := R4.out.app0 _ hown hgrow (by rw [size_alloc']; exact hat)
      have HGR : Hid _ := hgrow
      clear hown hgrow hat
      go_wp2
      go_meet
      exact ⟨rfl, rfl, RS.of0 R'.out HKN.out (by rw [HWK.out]; rfl), R4.out.low0 _ HGR.out hlow4.out⟩
    case rest =>
    clear HRS HN
    obtain ⟨hs5, hs6, HRS, HN⟩ := hcut
    subst hs5 hs6
    go_upto_region 13 with fail
    go_cut [5, 6] from 18 to 93 (fun s5 s6 wc => s5 = .int .i64 k ∧ s6 = .slice xa 0 xc ∧ Hid (RS w2.heap.size wc (auK ws (fPa ws) lastE (fFa ws) (mustS rs) (badS rs) (k + 1) (k + 1) k k k)) ∧ Hid (Nx w2 wc))
    case first =>
      obtain ⟨a0, n0, c0, a1, n1, c1, a2, n2, c2, a3, n3, c3, a4, n4, c4, hR0⟩ := HRS.out
      have hR : Hid _ := hR0
      clear hR0
      have R4 : Hid _ := hR.out
      have hlow4 : Hid _ := HN.out
      have y4 : _ = some (Value.slice a1 n1 c1) := hR.out.bx.cell (i := 1) rfl
      have z4 := hR.out.bx.frozen 1
      go_wp2_with (at_builtin; refine wpList_append_own_at _ rfl _ _ 24 rfl (w2.heap.size + 1) 2 ii (.int .i64 0) 1 8 Try.underlying24 hi hz0 hz1 hz2 rfl (by decide) _ _ _ rfl (World.ownsRow.alloc R4.out.o1 _) ⟨_, 0, none⟩ 1 1 [.int .i64 (-1)] rfl rfl (fun j u hj => new_cells _ _ _ _ rfl j u hj) (by intro u hu; simp at hu; subst hu; rfl) (by have := auK_len (ws := ws) (k := k) hk2 lastE; unfold maxLen; simp only [auK]; omega) (by have := auK_len (ws := ws) (k := k) hk2 lastE; simp only [auK]; omega) (by have := R4.out.bx.lt; rw [size_alloc']; omega) ?_)
      intro v' w' hown hgrow _ hat
      obtain ⟨ra, rn, rc, hrs⟩ := own_slice hown
      subst hrs
      have hbx := (R4.out.box1 _ hgrow).1
      have hfz := (R4.out.box1 _ hgrow).2
      have R' : Hid _ := R4.out.app1 _ hown hgrow (by rw [size_alloc']; exact hat)
      have HGR : Hid _ := hgrow
      clear hown hgrow hat
      go_wp2
      go_meet
      exact ⟨rfl, rfl, RS.of1 R'.out HKN.out (by rw [HWK.out]; rfl), R4.out.low1 _ HGR.out hlow4.out⟩
    case rest =>
    clear HRS HN
    obtain ⟨hs5, hs6, HRS, HN⟩ := hcut
    subst hs5 hs6
    go_upto_region 14 with fail
    go_cut [5, 6] from 18 to 93 (fun s5 s6 wc => s5 = .int .i64 k ∧ s6 = .slice xa 0 xc ∧ Hid (RS w2.heap.size wc (auK ws (fPa ws) lastE (fFa ws) (mustS rs) (badS rs) (k + 1) (k + 1) (k + 1) k k)) ∧ Hid (Nx w2 wc))
    case first =>
      obtain ⟨a0, n0, c0, a1, n1, c1, a2, n2, c2, a3, n3, c3, a4, n4, c4, hR0⟩ := HRS.out
      have hR : Hid _ := hR0
      clear hR0
      have R4 : Hid _ := hR.out
      have hlow4 : Hid _ := HN.out
      have y4 : _ = some (Value.slice a2 n2 c2) := hR.out.bx.cell (i := 2) rfl
      have z4 := hR.out.bx.frozen 2
      go_wp2_with (at_builtin; refine wpList_append_own_at _ rfl _ _ 24 rfl (w2.heap.size + 1) 2 ii (.int .i64 0) 1 8 Try.underlying24 hi hz0 hz1 hz2 rfl (by decide) _ _ _ rfl (World.ownsRow.alloc R4.out.o2 _) ⟨_, 0, none⟩ 1 1 [.int .i64 (-1)] rfl rfl (fun j u hj => new_cells _ _ _ _ rfl j u hj) (by intro u hu; simp at hu; subst hu; rfl) (by have := auK_len (ws := ws) (k := k) hk2 (fFa ws); unfold maxLen; simp only [auK]; omega) (by have := auK_len (ws := ws) (k := k) hk2 (fFa ws); simp only [auK]; omega) (by have := R4.out.bx.lt; rw [size_alloc']; omega) ?_)
      intro v' w' hown hgrow _ hat
      obtain ⟨ra, rn, rc, hrs⟩ := own_slice hown
      subst hrs
      have hbx := (R4.out.box2 _ hgrow).1
      have hfz := (R4.out.box2 _ hgrow).2
      have R' : Hid _ := R4.out.app2 _ hown hgrow (by rw [size_alloc']; exact hat)
      have HGR : Hid _ := hgrow
      clear hown hgrow hat
      go_wp2
      go_meet
      exact ⟨rfl, rfl, RS.of2 R'.out HKN.out (by rw [HWK.out]; rfl), R4.out.low2 _ HGR.out hlow4.out⟩
    case rest =>
    clear HRS HN
    obtain ⟨hs5, hs6, HRS, HN⟩ := hcut
    subst hs5 hs6
    go_upto_region 18 with fail
    go_cut [5, 6] from 18 to 93 (fun s5 s6 wc => s5 = .int .i64 k ∧ s6 = .slice xa 0 xc ∧ Hid (RS w2.heap.size wc (auK ws (fPa ws) lastE (fFa ws) (mustS rs) (badS rs) (k + 1) (k + 1) (k + 1) (k + 1) k)) ∧ Hid (Nx w2 wc))
    case first =>
      obtain ⟨a0, n0, c0, a1, n1, c1, a2, n2, c2, a3, n3, c3, a4, n4, c4, hR0⟩ := HRS.out
      have hR : Hid _ := hR0
      clear hR0
      have y4 : _ = some (Value.slice a3 n3 c3) := hR.out.bx.cell (i := 3) rfl
      have z4 := hR.out.bx.frozen 3
      go_region_law (first | (go_simp; go_at_call 32; refine (l3Must_any B 0 _ _ rs (wd ws k) _ (by exact HRN.out.next HN.out.drew) (by exact HXX.out.next HN.out.drew) (fun i hi => (rg_at HG.out hi).1)).mono ?_; rintro e w4 ⟨rfl, hx⟩; have hN4 := (Nx.refl _).drew.trans hx; have R4 : Hid _ := hR.out.next hN4; have hlow4 : Hid _ := HN.out.trans hN4; have y5 := cellq hN4 y4; have y6 : (w4.alloc (.cells #[.int .i64 (mustS rs (wd ws k))] 2)).cell? ⟨w2.heap.size, 3, none⟩ = some (.slice a3 n3 c3) := cellq (box1 _ _) y5) | (refine step_append_at rfl (.tmp 79) (.tmp 83) 24 rfl 2 ii (.int .i64 0) 1 8 Try.underlying24 hi hz0 hz1 hz2 rfl (by decide) (w2.heap.size + 1) (.slice a3 n3 c3) _ _ (by simp [Act.eval]) (World.ownsRow.alloc R4.out.o3 _) ⟨_, 0, none⟩ 1 1 [.int .i64 (mustS rs (wd ws k))] (by simp [Act.eval]) rfl (fun j u hj => new_cells _ _ _ _ rfl j u hj) (by intro u hu; simp at hu; subst hu; rfl) (by have := auK_len (ws := ws) (k := k) hk2; unfold maxLen; simp only [auK]; have := this (mustS rs); omega) (by have := auK_len (ws := ws) (k := k) hk2 (mustS rs); simp only [auK]; omega) (by have := R4.out.bx.lt; rw [size_alloc']; omega) ?_; intro v' w' hown hgrow hat; obtain ⟨ra, rn, rc, hrs⟩ := own_slice hown; subst hrs; have hbx := (R4.out.box3 _ hgrow).1; have hfz := (R4.out.box3 _ hgrow).2; have R' : Hid _ := R4.out.app3 _ hown hgrow (by first | exact hat | (rw [size_alloc']; exact hat)); have HGR : Hid _ := hgrow; clear hown hgrow hat))
      all_goals go_wp2
      all_goals go_meet
      all_goals exact ⟨rfl, rfl, RS.of3 R'.out HKN.out rfl, R4.out.low3 _ HGR.out hlow4.out⟩
    case rest =>
    clear HRS HN
    obtain ⟨hs5, hs6, HRS, HN⟩ := hcut
    subst hs5 hs6
    go_upto_region 19 with fail
    obtain ⟨a0, n0, c0, a1, n1, c1, a2, n2, c2, a3, n3, c3, a4, n4, c4, hR0⟩ := HRS.out
    have hR : Hid _ := hR0
    clear hR0
    have y4 : _ = some (Value.slice a4 n4 c4) := hR.out.bx.cell (i := 4) rfl
    have z4 := hR.out.bx.frozen 4
    go_region_law (first | (go_simp; go_at_call 33; refine (l3Bad_any B 0 _ _ rs (wd ws k) _ (by exact HRN.out.next HN.out.drew) (by exact HXX.out.next HN.out.drew)).mono ?_; rintro e w4 ⟨rfl, hx⟩; have hN4 := (Nx.refl _).drew.trans hx; have R4 : Hid _ := hR.out.next hN4; have hlow4 : Hid _ := HN.out.trans hN4; have y5 := cellq hN4 y4; have y6 : (w4.alloc (.cells #[.bool (badS rs (wd ws k))] 4)).cell? ⟨w2.heap.size, 4, none⟩ = some (.slice a4 n4 c4) := cellq (box1 _ _) y5) | (refine step_append_at rfl (.tmp 87) (.tmp 91) 25 rfl 4 jj (.bool false) 1 1 Try.underlying25 hj0 hj1 hj2 hj3 rfl (by decide) (w2.heap.size + 1) (.slice a4 n4 c4) _ _ (by simp [Act.eval]) (World.ownsRow.alloc R4.out.o4 _) ⟨_, 0, none⟩ 1 1 [.bool (badS rs (wd ws k))] (by simp [Act.eval]) rfl (fun j u hj => new_cells _ _ _ _ rfl j u hj) (by intro u hu; simp at hu; subst hu; rfl) (by have := auK_lenB (ws := ws) (k := k) hk2; unfold maxLen; simp only [auK]; have := this (badS rs); omega) (by have := auK_lenB (ws := ws) (k := k) hk2 (badS rs); simp only [auK]; omega) (by have := R4.out.bx.lt; rw [size_alloc']; omega) ?_; intro v' w' hown hgrow hat; obtain ⟨ra, rn, rc, hrs⟩ := own_slice hown; subst hrs; have hbx := (R4.out.box4 _ hgrow).1; have hfz := (R4.out.box4 _ hgrow).2; have R' : Hid _ := R4.out.app4 _ hown hgrow (by first | exact hat | (rw [size_alloc']; exact hat)); have HGR : Hid _ := hgrow; clear hown hgrow hat))
    all_goals go_wp2
    all_goals
      go_roundw
      case rel => exact ⟨k + 1, by omega, by go_num, RS.of4 R'.out HKN.out rfl, R4.out.low4 _ HGR.out hlow4.out⟩
      case measure => simp [intOf]; omega
  · have hne := HNE.out k (by omega) hlt
    have HWK : Hid (wd ws k ≠ []) := hne.1
    have hx1 : 1 ≤ xn := by rw [← HXL.out]; exact List.length_pos_iff.2 hne.1
    have hx4 : xn ≤ 402 := by rw [← HXL.out]; exact hne.2
    obtain ⟨m, rfl⟩ : ∃ m, xn = m + 1 := ⟨xn - 1, by omega⟩
    obtain ⟨xb, xo, rfl, _, hxb, hxcell⟩ := hxk (by omega)
    have x0 : w2.cell? ⟨xb, xo + m, none⟩ = some (.int .i64 (iat (wd ws k) m)) := hxcell m (by omega)
    have HLE : Hid (iat (wd ws k) m = lastE (wd ws k)) := (lastE_iat HXL.out).symm
    have HDL : Hid ((wd ws k).take m = (wd ws k).dropLast) := by unfold Hid; rw [List.dropLast_eq_take, HXL.out]; rfl
    have w1 : IntKind.i64.wrap ((m : Int) + 1 - 1) = (m : Int) := by rw [IntKind.wrap_i64]; omega
    have w2' : ((m : Int) + 1 - 1) = (m : Int) := by omega
    have hm1 : (m : Int) < (m : Int) + 1 := by omega
    have hm2 : (m : Int) ≤ xc := by omega
    have wm := wrapJ m (by omega)
    clear hxk hne hxcell hk0
    go_upto_region 15 with fail
    go_cut [5, 6] from 18 to 93 (fun s5 s6 wc => s5 = .int .i64 k ∧ s6 = .slice (some ⟨xb, xo, none⟩) (m + 1) xc ∧ Hid (RS w2.heap.size wc (auK ws (fPa ws) lastE (fFa ws) (mustS rs) (badS rs) (k + 1) k k k k)) ∧ Hid (Nx w2 wc))
    case first =>
      obtain ⟨a0, n0, c0, a1, n1, c1, a2, n2, c2, a3, n3, c3, a4, n4, c4, hR0⟩ := HRS.out
      have hR : Hid _ := hR0
      clear hR0
      have y4 : _ = some (Value.slice a0 n0 c0) := hR.out.bx.cell (i := 0) rfl
      have z4 := hR.out.bx.frozen 0
      go_region_law (first | (go_simp; go_at_call 30; refine (l3State_any 0 0 _ _ ws ((wd ws k).take m) _ (by exact HWO.out.next HN.out.drew) (by exact (HXX.out.take (Nat.le_succ _) _).next HN.out.drew) HASC.out (by rw [HZ.out]; omega)).mono ?_; rintro e w4 ⟨rfl, hx⟩; have hN4 := (Nx.refl _).drew.trans hx; have R4 : Hid _ := hR.out.next hN4; have hlow4 : Hid _ := HN.out.trans hN4; have y5 := cellq hN4 y4; have y6 : (w4.alloc (.cells #[.int .i64 (stW ws ((wd ws k).take m))] 2)).cell? ⟨w2.heap.size, 0, none⟩ = some (.slice a0 n0 c0) := cellq (box1 _ _) y5) | (refine step_append_at rfl (.tmp 48) (.tmp 56) 24 rfl 2 ii (.int .i64 0) 1 8 Try.underlying24 hi hz0 hz1 hz2 rfl (by decide) (w2.heap.size + 1) (.slice a0 n0 c0) _ _ (by simp [Act.eval]) (World.ownsRow.alloc R4.out.o0 _) ⟨_, 0, none⟩ 1 1 [.int .i64 (stW ws ((wd ws k).take m))] (by simp [Act.eval]) rfl (fun j u hj => new_cells _ _ _ _ rfl j u hj) (by intro u hu; simp at hu; subst hu; rfl) (by have := auK_len (ws := ws) (k := k) hk2; unfold maxLen; simp only [auK]; have := this (fPa ws); omega) (by have := auK_len (ws := ws) (k := k) hk2 (fPa ws); simp only [auK]; omega) (by have := R4.out.bx.lt; rw [size_alloc']; omega) ?_; intro v' w' hown hgrow hat; obtain ⟨ra, rn, rc, hrs⟩ := own_slice hown; subst hrs; have hbx := (R4.out.box0 _ hgrow).1; have hfz := (R4.out.box0 _ hgrow).2; have R' : Hid _ := R4.out.app0 _ hown hgrow (by first | exact hat | (rw [size_alloc']; exact hat)); have HGR : Hid _ := hgrow; clear hown hgrow hat))
      all_goals go_wp2
      all_goals go_meet
      all_goals exact ⟨rfl, rfl, RS.of0 R'.out HKN.out (by unfold fPa; rw [if_neg HWK.out, HDL.out]), R4.out.low0 _ HGR.out hlow4.out⟩
    case rest =>
    clear HRS HN
    obtain ⟨hs5, hs6, HRS, HN⟩ := hcut
    subst hs5 hs6
    have x1 := cellq HN.out x0
    go_upto_region 16 with fail
    go_cut [5, 6] from 18 to 93 (fun s5 s6 wc => s5 = .int .i64 k ∧ s6 = .slice (some ⟨xb, xo, none⟩) (m + 1) xc ∧ Hid (RS w2.heap.size wc (auK ws (fPa ws) lastE (fFa ws) (mustS rs) (badS rs) (k + 1) (k + 1) k k k)) ∧ Hid (Nx w2 wc))
    case first =>
      obtain ⟨a0, n0, c0, a1, n1, c1, a2, n2, c2, a3, n3, c3, a4, n4, c4, hR0⟩ := HRS.out
      have hR : Hid _ := hR0
      clear hR0
      have R4 : Hid _ := hR.out
      have hlow4 : Hid _ := HN.out
      have y4 : _ = some (Value.slice a1 n1 c1) := hR.out.bx.cell (i := 1) rfl
      have z4 := hR.out.bx.frozen 1
      have y6 : ((wc.alloc (.cells #[.int .i64 (iat (wd ws k) m)] 2)).drew).cell? ⟨w2.heap.size, 1, none⟩ = some (.slice a1 n1 c1) := cellq (box1 _ _) y4
      go_region_law (refine step_append_at rfl (.tmp 60) (.tmp 67) 24 rfl 2 ii (.int .i64 0) 1 8 Try.underlying24 hi hz0 hz1 hz2 rfl (by decide) (w2.heap.size + 1) (.slice a1 n1 c1) _ _ (by simp [Act.eval]) (show ((wc.alloc (.cells #[.int .i64 (iat (wd ws k) m)] 2)).drew).ownsRow _ _ _ _ _ _ from World.ownsRow.alloc R4.out.o1 _) ⟨wc.heap.size, 0, none⟩ 1 1 [.int .i64 (iat (wd ws k) m)] (by simp [Act.eval]) rfl (fun j u hj => show ((wc.alloc (.cells #[.int .i64 (iat (wd ws k) m)] 2)).drew).cell? _ = _ from new_cells wc _ _ _ rfl j u hj) (by intro u hu; simp at hu; subst hu; rfl) (by have := auK_len (ws := ws) (k := k) hk2 lastE; unfold maxLen; simp only [auK]; omega) (by have := auK_len (ws := ws) (k := k) hk2 lastE; simp only [auK]; omega) (by have := R4.out.bx.lt; show _ ≤ (wc.alloc (.cells #[.int .i64 (iat (wd ws k) m)] 2)).heap.size; rw [size_alloc']; omega) ?_; intro v' w' hown hgrow0 hat; have hgrow : (wc.alloc (.cells #[.int .i64 (iat (wd ws k) m)] 2)).grownBy w' (Value.slice a1 n1 c1).ownBlock := ⟨hgrow0.os, hgrow0.tape, hgrow0.output, hgrow0.size, hgrow0.block⟩; obtain ⟨ra, rn, rc, hrs⟩ := own_slice hown; subst hrs; have hbx := (R4.out.box1 _ hgrow).1; have hfz := (R4.out.box1 _ hgrow).2; have R' : Hid _ := R4.out.app1 _ hown hgrow hat; have HGR : Hid _ := hgrow; clear hown hgrow hgrow0 hat)
      all_goals go_wp2
      all_goals go_meet
      all_goals exact ⟨rfl, rfl, RS.of1 R'.out HKN.out HLE.out, R4.out.low1 _ HGR.out hlow4.out⟩
    case rest =>
    clear HRS HN
    obtain ⟨hs5, hs6, HRS, HN⟩ := hcut
    subst hs5 hs6
    go_upto_region 17 with fail
    go_cut [5, 6] from 18 to 93 (fun s5 s6 wc => s5 = .int .i64 k ∧ s6 = .slice (some ⟨xb, xo, none⟩) (m + 1) xc ∧ Hid (RS w2.heap.size wc (auK ws (fPa ws) lastE (fFa ws) (mustS rs) (badS rs) (k + 1) (k + 1) (k + 1) k k)) ∧ Hid (Nx w2 wc))
    case first =>
      obtain ⟨a0, n0, c0, a1, n1, c1, a2, n2, c2, a3, n3, c3, a4, n4, c4, hR0⟩ := HRS.out
      have hR : Hid _ := hR0
      clear hR0
      have y4 : _ = some (Value.slice a2 n2 c2) := hR.out.bx.cell (i := 2) rfl
      have z4 := hR.out.bx.frozen 2
      go_region_law (first | (go_simp; go_at_call 31; refine (l3Longest_any 0 0 _ _ ws (wd ws k) 1 _ (by exact HWO.out.next HN.out.drew) (by exact HXX.out.next HN.out.drew) HASC.out (by rw [HZ.out]; omega) (by rw [HXL.out]; omega) (by rw [HXL.out]; omega) ⟨_, _, _, rfl, HCAP.out⟩).mono ?_; rintro e w4 ⟨rfl, hx⟩; have hN4 := (Nx.refl _).drew.trans hx; have R4 : Hid _ := hR.out.next hN4; have hlow4 : Hid _ := HN.out.trans hN4; have y5 := cellq hN4 y4; have y6 : (w4.alloc (.cells #[.int .i64 (lngW ws (wd ws k) 1 (wd ws k).length)] 2)).cell? ⟨w2.heap.size, 2, none⟩ = some (.slice a2 n2 c2) := cellq (box1 _ _) y5) | (refine step_append_at rfl (.tmp 71) (.tmp 75) 24 rfl 2 ii (.int .i64 0) 1 8 Try.underlying24 hi hz0 hz1 hz2 rfl (by decide) (w2.heap.size + 1) (.slice a2 n2 c2) _ _ (by simp [Act.eval]) (World.ownsRow.alloc R4.out.o2 _) ⟨_, 0, none⟩ 1 1 [.int .i64 (lngW ws (wd ws k) 1 (wd ws k).length)] (by simp [Act.eval]) rfl (fun j u hj => new_cells _ _ _ _ rfl j u hj) (by intro u hu; simp at hu; subst hu; rfl) (by have := auK_len (ws := ws) (k := k) hk2; unfold maxLen; simp only [auK]; have := this (fFa ws); omega) (by have := auK_len (ws := ws) (k := k) hk2 (fFa ws); simp only [auK]; omega) (by have := R4.out.bx.lt; rw [size_alloc']; omega) ?_; intro v' w' hown hgrow hat; obtain ⟨ra, rn, rc, hrs⟩ := own_slice hown; subst hrs; have hbx := (R4.out.box2 _ hgrow).1; have hfz := (R4.out.box2 _ hgrow).2; have R' : Hid _ := R4.out.app2 _ hown hgrow (by first | exact hat | (rw [size_alloc']; exact hat)); have HGR : Hid _ := hgrow; clear hown hgrow hat))
      all_goals go_wp2
      all_goals go_meet
      all_goals exact ⟨rfl, rfl, RS.of2 R'.out HKN.out (by unfold fFa; rw [if_neg HWK.out]; unfold LW; simp), R4.out.low2 _ HGR.out hlow4.out⟩
    case rest =>
    clear HRS HN
    obtain ⟨hs5, hs6, HRS, HN⟩ := hcut
    subst hs5 hs6
    go_upto_region 18 with fail
    go_cut [5, 6] from 18 to 93 (fun s5 s6 wc => s5 = .int .i64 k ∧ s6 = .slice (some ⟨xb, xo, none⟩) (m + 1) xc ∧ Hid (RS w2.heap.size wc (auK ws (fPa ws) lastE (fFa ws) (mustS rs) (badS rs) (k + 1) (k + 1) (k + 1) (k + 1) k)) ∧ Hid (Nx w2 wc))
    case first =>
      obtain ⟨a0, n0, c0, a1, n1, c1, a2, n2, c2, a3, n3, c3, a4, n4, c4, hR0⟩ := HRS.out
      have hR : Hid _ := hR0
      clear hR0
      have y4 : _ = some (Value.slice a3 n3 c3) := hR.out.bx.cell (i := 3) rfl
      have z4 := hR.out.bx.frozen 3
      go_region_law (first | (go_simp; go_at_call 32; refine (l3Must_any B 0 _ _ rs (wd ws k) _ (by exact HRN.out.next HN.out.drew) (by exact HXX.out.next HN.out.drew) (fun i hi => (rg_at HG.out hi).1)).mono ?_; rintro e w4 ⟨rfl, hx⟩; have hN4 := (Nx.refl _).drew.trans hx; have R4 : Hid _ := hR.out.next hN4; have hlow4 : Hid _ := HN.out.trans hN4; have y5 := cellq hN4 y4; have y6 : (w4.alloc (.cells #[.int .i64 (mustS rs (wd ws k))] 2)).cell? ⟨w2.heap.size, 3, none⟩ = some (.slice a3 n3 c3) := cellq (box1 _ _) y5) | (refine step_append_at rfl (.tmp 79) (.tmp 83) 24 rfl 2 ii (.int .i64 0) 1 8 Try.underlying24 hi hz0 hz1 hz2 rfl (by decide) (w2.heap.size + 1) (.slice a3 n3 c3) _ _ (by simp [Act.eval]) (World.ownsRow.alloc R4.out.o3 _) ⟨_, 0, none⟩ 1 1 [.int .i64 (mustS rs (wd ws k))] (by simp [Act.eval]) rfl (fun j u hj => new_cells _ _ _ _ rfl j u hj) (by intro u hu; simp at hu; subst hu; rfl) (by have := auK_len (ws := ws) (k := k) hk2; unfold maxLen; simp only [auK]; have := this (mustS rs); omega) (by have := auK_len (ws := ws) (k := k) hk2 (mustS rs); simp only [auK]; omega) (by have := R4.out.bx.lt; rw [size_alloc']; omega) ?_; intro v' w' hown hgrow hat; obtain ⟨ra, rn, rc, hrs⟩ := own_slice hown; subst hrs; have hbx := (R4.out.box3 _ hgrow).1; have hfz := (R4.out.box3 _ hgrow).2; have R' : Hid _ := R4.out.app3 _ hown hgrow (by first | exact hat | (rw [size_alloc']; exact hat)); have HGR : Hid _ := hgrow; clear hown hgrow hat))
      all_goals go_wp2
      all_goals go_meet
      all_goals exact ⟨rfl, rfl, RS.of3 R'.out HKN.out rfl, R4.out.low3 _ HGR.out hlow4.out⟩
    case rest =>
    clear HRS HN
    obtain ⟨hs5, hs6, HRS, HN⟩ := hcut
    subst hs5 hs6
    go_upto_region 19 with fail
    obtain ⟨a0, n0, c0, a1, n1, c1, a2, n2, c2, a3, n3, c3, a4, n4, c4, hR0⟩ := HRS.out
    have hR : Hid _ := hR0
    clear hR0
    have y4 : _ = some (Value.slice a4 n4 c4) := hR.out.bx.cell (i := 4) rfl
    have z4 := hR.out.bx.frozen 4
    go_region_law (first | (go_simp; go_at_call 33; refine (l3Bad_any B 0 _ _ rs (wd ws k) _ (by exact HRN.out.next HN.out.drew) (by exact HXX.out.next HN.out.drew)).mono ?_; rintro e w4 ⟨rfl, hx⟩; have hN4 := (Nx.refl _).drew.trans hx; have R4 : Hid _ := hR.out.next hN4; have hlow4 : Hid _ := HN.out.trans hN4; have y5 := cellq hN4 y4; have y6 : (w4.alloc (.cells #[.bool (badS rs (wd ws k))] 4)).cell? ⟨w2.heap.size, 4, none⟩ = some (.slice a4 n4 c4) := cellq (box1 _ _) y5) | (refine step_append_at rfl (.tmp 87) (.tmp 91) 25 rfl 4 jj (.bool false) 1 1 Try.underlying25 hj0 hj1 hj2 hj3 rfl (by decide) (w2.heap.size + 1) (.slice a4 n4 c4) _ _ (by simp [Act.eval]) (World.ownsRow.alloc R4.out.o4 _) ⟨_, 0, none⟩ 1 1 [.bool (badS rs (wd ws k))] (by simp [Act.eval]) rfl (fun j u hj => new_cells _ _ _ _ rfl j u hj) (by intro u hu; simp at hu; subst hu; rfl) (by have := auK_lenB (ws := ws) (k := k) hk2; unfold maxLen; simp only [auK]; have := this (badS rs); omega) (by have := auK_lenB (ws := ws) (k := k) hk2 (badS rs); simp only [auK]; omega) (by have := R4.out.bx.lt; rw [size_alloc']; omega) ?_; intro v' w' hown hgrow hat; obtain ⟨ra, rn, rc, hrs⟩ := own_slice hown; subst hrs; have hbx := (R4.out.box4 _ hgrow).1; have hfz := (R4.out.box4 _ hgrow).2; have R' : Hid _ := R4.out.app4 _ hown hgrow (by first | exact hat | (rw [size_alloc']; exact hat)); have HGR : Hid _ := hgrow; clear hown hgrow hat))
    all_goals go_wp2
    all_goals
      go_roundw
      case rel => exact ⟨k + 1, by omega, by go_num, RS.of4 R'.out HKN.out rfl, R4.out.low4 _ HGR.out hlow4.out⟩
      case measure => simp [intOf]; omega
end Go.Proofs.Ytifefpeefcjabaa
