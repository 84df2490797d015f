import Derived.Test.YticooljejlkbfaaPO
import Derived.Test.YticooljejlkbfaaPQ
import Derived.RangeFuncNested
import Derived.RangeFuncBound
import Derived.RangeFuncCalls
import Derived.RangeFuncLeaves
import Derived.Shelf.Abstract
import Derived.Shelf.RegionOpen
import Derived.OwnWalkIn
import Derived.TacticsInMore
import Derived.LoopNIn
import Derived.LoopIn
namespace Go.Proofs.Yticooljejlkbfaa
open Go.RowKit Go.Sort Go.Maps Go.Shelf
set_option linter.unusedVariables false
set_option maxRecDepth 100000
attribute [local go_sem] Oper.semAt_some

/-- what the iterator of a vertex's arcs reads -/
structure ITC (W : World) (bg bv bs p rb n v b2 o2 m2 c2 : Nat) (a3 : Option Addr) (m3 c3 : Nat) (a4 : Option Addr) (m4 c4 : Nat) (G : Gr) (r : Rk) : Prop where
  g2 : W.cell? ⟨bg, 2, none⟩ = some (.slice (some ⟨b2, o2, none⟩) m2 c2)
  g3 : W.cell? ⟨bg, 3, none⟩ = some (.slice a3 m3 c3)
  g4 : W.cell? ⟨bg, 4, none⟩ = some (.slice a4 m4 c4)
  hv : W.cell? ⟨bv, 0, none⟩ = some (.int .i64 (v : Int))
  hs : W.cell? ⟨bs, 0, none⟩ = some (.pointer (some ⟨p, 0, none⟩))
  hr : W.cell? ⟨p, 8, none⟩ = some (.slice (some ⟨rb, 0, none⟩) n n)
  k1 : W.cell? ⟨rb, v * 2, none⟩ = some (.int .i64 r.1)
  k2 : W.cell? ⟨rb, v * 2 + 1, none⟩ = some (.int .i64 r.2)
  f0 : W.cell? ⟨b2, o2 + v, none⟩ = some (.int .i64 (fst G v : Int))
  f1 : W.cell? ⟨b2, o2 + (v + 1), none⟩ = some (.int .i64 (fst G (v + 1) : Int))
  t : ∀ k, fst G v ≤ k → k < fst G (v + 1) → ∃ b o, a3 = some ⟨b, o, none⟩ ∧ W.cell? ⟨b, o + k, none⟩ = some (.int .i64 (iat G.tt k))
  c : ∀ k, fst G v ≤ k → k < fst G (v + 1) → ∃ b o, a4 = some ⟨b, o, none⟩ ∧ W.cell? ⟨b, o + k, none⟩ = some (.int .i64 (iat G.co k))
theorem ITC.kept {W W' : World} {bg bv bs p rb n v b2 o2 m2 c2 : Nat} {a3 : Option Addr} {m3 c3 : Nat} {a4 : Option Addr} {m4 c4 : Nat} {G : Gr} {r : Rk} (h : ITC W bg bv bs p rb n v b2 o2 m2 c2 a3 m3 c3 a4 m4 c4 G r) (k : ∀ b o u, W.cell? ⟨b, o, none⟩ = some u → W'.cell? ⟨b, o, none⟩ = some u) : ITC W' bg bv bs p rb n v b2 o2 m2 c2 a3 m3 c3 a4 m4 c4 G r :=
  ⟨k _ _ _ h.g2, k _ _ _ h.g3, k _ _ _ h.g4, k _ _ _ h.hv, k _ _ _ h.hs, k _ _ _ h.hr, k _ _ _ h.k1, k _ _ _ h.k2, k _ _ _ h.f0, k _ _ _ h.f1, fun q h1 h2 => by obtain ⟨b, o, e, hc⟩ := h.t q h1 h2; exact ⟨b, o, e, k _ _ _ hc⟩, fun q h1 h2 => by obtain ⟨b, o, e, hc⟩ := h.c q h1 h2; exact ⟨b, o, e, k _ _ _ hc⟩⟩
/-- what comes of the arcs below k -/
def outK (G : Gr) (r : Rk) (v k : Nat) : List (Nat × Rk) := (List.range' (fst G v) (k - fst G v)).map (fun j => ((iat G.tt j).toNat, aft r (iat G.co j)))
theorem outK_snoc (G : Gr) (r : Rk) {v k : Nat} (h : fst G v ≤ k) : outK G r v (k + 1) = outK G r v k ++ [((iat G.tt k).toNat, aft r (iat G.co k))] := by
  unfold outK
  rw [show k + 1 - fst G v = (k - fst G v) + 1 by omega, List.range'_concat, List.map_append, Nat.one_mul, show fst G v + (k - fst G v) = k by omega]
  rfl
theorem outK_len (G : Gr) (r : Rk) (v k : Nat) : (outK G r v k).length = k - fst G v := by simp [outK]
/-- what an arc gives -/
def okX (G : Gr) (r : Rk) (v : Nat) (x : Nat × Rk) : Prop := ∃ k, fst G v ≤ k ∧ k < fst G (v + 1) ∧ x = ((iat G.tt k).toNat, aft r (iat G.co k))
def encA (x : Nat × Rk) : Array Value := #[.int .i64 (x.1 : Int), .agg #[.int .i64 x.2.1, .int .i64 x.2.2]]

theorem wide_fn (f : FuncId) : Fence.wide.fn f := trivial
theorem abides_nx {β : Type} {B : Nat} {J : β → World → Prop} (h : AbidesFrom B J) {s : β} {w w' : World} (hs : J s w) (k : Nx w w') : J s w' :=
  h s w w' none hs ⟨k.os, k.tape, k.output, k.size, fun i hi _ => k.block i hi⟩ (fun r e => by cases e)
theorem yb_of {A B : Prop} {e : Ending} (h : (e = .returned (.bool true) ∧ A) ∨ (e = .returned (.bool false) ∧ B)) : ∃ bb : Bool, e = .returned (.bool bb) ∧ Hid (bb = true → A) ∧ Hid (bb = false → B) := by
  rcases h with ⟨h1, h2⟩ | ⟨h1, h2⟩
  · exact ⟨true, h1, fun _ => h2, fun h => (by cases h)⟩
  · exact ⟨false, h1, fun h => (by cases h), fun _ => h2⟩

set_option maxHeartbeats 8000000 in
theorem onward1_in (l bg bv bs p rb n v b2 o2 m2 c2 : Nat) (a3 : Option Addr) (m3 c3 : Nat) (a4 : Option Addr) (m4 c4 : Nat) (G : Gr) (r : Rk) (N m : Nat) (J Jx : List (Nat × Rk) → World → Prop) (HVG : Hid (VG G)) (hv : v < G.eo.length) (hm2 : m2 = G.fi.length) (hm3 : m3 = G.tt.length) (hm4 : m4 = G.co.length) (hvn : v < n) (hr1 : 0 ≤ r.1 ∧ r.1 ≤ 100000000000) (hr2 : 0 ≤ r.2 ∧ r.2 ≤ 100000)
    (hN : fst G (v + 1) - fst G v ≤ N)
    (W : World) (HJ : Hid (AbidesFrom W.heap.size J))
    (hY : ∀ pre x W, okX G r v x → J pre W → pre.length < N → YieldAt Fence.wide m Try.prog l (encA x) W fun e W' => (e = .returned (.bool true) ∧ J (pre ++ [x]) W' ∧ (ITC W bg bv bs p rb n v b2 o2 m2 c2 a3 m3 c3 a4 m4 c4 G r → ITC W' bg bv bs p rb n v b2 o2 m2 c2 a3 m3 c3 a4 m4 c4 G r)) ∨ (e = .returned (.bool false) ∧ Jx (pre ++ [x]) W'))
    (hI : ITC W bg bv bs p rb n v b2 o2 m2 c2 a3 m3 c3 a4 m4 c4 G r) (h0 : J [] W) :
    Calls Try.prog 65 #[.func (.yield l) #[] #[], .pointer (some ⟨bg, 0, none⟩), .pointer (some ⟨bv, 0, none⟩), .pointer (some ⟨bs, 0, none⟩)] W fun e W' => (∃ x, e = .returned x) ∧ ((∃ ys, ys = outK G r v (fst G (v + 1)) ∧ J ys W') ∨ (∃ pre, (∃ k, fst G v ≤ k ∧ k < fst G (v + 1) ∧ pre = outK G r v (k + 1)) ∧ Jx pre W')) := by
  have HY : Hid (∀ pre x W, okX G r v x → J pre W → pre.length < N → YieldAt Fence.wide m Try.prog l (encA x) W fun e W' => (e = .returned (.bool true) ∧ J (pre ++ [x]) W' ∧ (ITC W bg bv bs p rb n v b2 o2 m2 c2 a3 m3 c3 a4 m4 c4 G r → ITC W' bg bv bs p rb n v b2 o2 m2 c2 a3 m3 c3 a4 m4 c4 G r)) ∨ (e = .returned (.bool false) ∧ Jx (pre ++ [x]) W')) := hY
  have HI0 : Hid (ITC W bg bv bs p rb n v b2 o2 m2 c2 a3 m3 c3 a4 m4 c4 G r) := hI
  have H00 : Hid (J (outK G r v (fst G v)) W) := by
    unfold Hid outK
    rw [Nat.sub_self]
    exact h0
  have hvm2 : (v : Int) + 1 < m2 := by have := HVG.out.lf; omega
  have hvm2' : (v : Int) < m2 := by omega
  have hvv : v ≤ 6000 := by have := HVG.out.v; omega
  have HLE : Hid (fst G v ≤ fst G (v + 1)) := fst_le HVG.out hv
  have HFT : Hid (fst G (v + 1) ≤ G.tt.length) := (fst_eq HVG.out (show v + 1 ≤ G.eo.length by omega)).2
  have hT4 : G.tt.length ≤ 40000 := HVG.out.t
  have HVL : Hid (v < G.eo.length) := hv
  have x1 := hI.g2
  have x2 := hI.hv
  have x3 := hI.f0
  have hf0 : fst G v ≤ 40000 := by have := HLE.out; have := HFT.out; omega
  clear hY hI h0 hv
  go_enter Try.func65, Try.ntmps65
  go_wp2
  clear x1 x2 x3
  go_loopw [5] (fun k5 wr => ∃ k : Nat, Hid (fst G v ≤ k ∧ k ≤ fst G (v + 1)) ∧ k5 = .int .i64 (k : Int) ∧ Hid (ITC wr bg bv bs p rb n v b2 o2 m2 c2 a3 m3 c3 a4 m4 c4 G r) ∧ Hid (J (outK G r v k) wr) ) (fun k5 _ => fst G (v + 1) - (intOf k5).toNat)
  case atStart => exact ⟨fst G v, ⟨Nat.le_refl _, HLE.out⟩, rfl, HI0, H00⟩
  clear HI0 H00
  obtain ⟨k, HK, rfl, HI, HJk⟩ := hrel
  have x1 := HI.out.g2
  have x2 := HI.out.hv
  have x3 := HI.out.f1
  generalize hke : fst G (v + 1) = ke at *
  have HKE : Hid (fst G (v + 1) = ke) := hke
  clear hke
  have hke4 : ke ≤ 40000 := by have := HFT.out; omega
  have hkle : k ≤ ke := HK.out.2
  by_cases hlt : k < ke
  case neg =>
    have d1 : decide ((k : Int) < (ke : Int)) = false := decide_eq_false (by omega)
    have d1' : decide (k < ke) = false := decide_eq_false hlt
    have hkk : k = ke := by omega
    have HF : Hid (J (outK G r v ke) wr) := by rw [← hkk]; exact HJk
    clear hkk hkle
    go_wp2
    go_end0
    exact ⟨⟨_, rfl⟩, Or.inl ⟨_, rfl, by rw [HKE.out]; exact HF.out⟩⟩
  have d1 : decide ((k : Int) < (ke : Int)) = true := decide_eq_true (by omega)
  have d1' : decide (k < ke) = true := decide_eq_true hlt
  have HKT : Hid (k < G.tt.length) := by have := HFT.out; unfold Hid; omega
  obtain ⟨b3, o3, ha3, y3⟩ := HI.out.t k HK.out.1 (by rw [HKE.out]; exact hlt)
  obtain ⟨b4, o4, ha4, y4⟩ := HI.out.c k HK.out.1 (by rw [HKE.out]; exact hlt)
  subst ha3 ha4
  have htt := HVG.out.tt k HKT.out
  have HCO : Hid (0 ≤ iat G.co k ∧ iat G.co k ≤ 3145728) := HVG.out.co k HKT.out
  obtain ⟨tv, hto⟩ : ∃ tv : Nat, iat G.tt k = (tv : Int) := ⟨(iat G.tt k).toNat, by omega⟩
  have HTO : Hid (iat G.tt k = (tv : Int)) := hto
  rw [hto] at y3
  have hkm3 : (k : Int) < m3 := by have := HKT.out; omega
  have hkm4 : (k : Int) < m4 := by have := HKT.out; have := HVG.out.lc; omega
  have y1 := HI.out.g3
  have y2 := HI.out.g4
  have y5 := HI.out.hs
  have y6 := HI.out.hr
  have y7 := HI.out.k1
  have y8 := HI.out.k2
  have hvn' : (v : Int) < n := by omega
  have HR12 : Hid ((0 ≤ r.1 ∧ r.1 ≤ 100000000000) ∧ (0 ≤ r.2 ∧ r.2 ≤ 100000)) := ⟨hr1, hr2⟩
  have HOUT : Hid (outK G r v (k + 1) = outK G r v k ++ [(tv, aft r (iat G.co k))]) := by unfold Hid; rw [outK_snoc G r HK.out.1, HTO.out, Int.toNat_natCast]
  have HNL : Hid ((outK G r v k).length < N) := by unfold Hid; rw [outK_len]; have := HK.out; omega
  have HOKX : Hid (okX G r v (tv, aft r (iat G.co k))) := ⟨k, HK.out.1, by rw [HKE.out]; exact hlt, by rw [HTO.out, Int.toNat_natCast]⟩
  clear htt hto hr1 hr2
  generalize hco : iat G.co k = co at *
  have hmx : Try.prog.follows .mixedOrders = true := by kernel_rfl
  go_upto_region 3 with fail
  refine (wpIn_wide (n := m + 1)).1 ?_
  have HS0 : Hid ((fun w => w.cell? ⟨bg, 3, none⟩ = some (.slice (some ⟨b3, o3, none⟩) m3 c3) ∧ w.cell? ⟨b3, o3 + k, none⟩ = some (.int .i64 (tv : Int)) ∧ w.cell? ⟨bs, 0, none⟩ = some (.pointer (some ⟨p, 0, none⟩)) ∧ w.cell? ⟨p, 8, none⟩ = some (.slice (some ⟨rb, 0, none⟩) n n) ∧ w.cell? ⟨bv, 0, none⟩ = some (.int .i64 (v : Int)) ∧ w.cell? ⟨rb, v * 2, none⟩ = some (.int .i64 r.1) ∧ w.cell? ⟨rb, v * 2 + 1, none⟩ = some (.int .i64 r.2) ∧ w.cell? ⟨bg, 4, none⟩ = some (.slice (some ⟨b4, o4, none⟩) m4 c4) ∧ w.cell? ⟨b4, o4 + k, none⟩ = some (.int .i64 co)) wr.drew) := ⟨y1, y3, y5, y6, x2, y7, y8, y2, y4⟩
  refine wpIn_region_S (c := 19) (S := fun w => w.cell? ⟨bg, 3, none⟩ = some (.slice (some ⟨b3, o3, none⟩) m3 c3) ∧ w.cell? ⟨b3, o3 + k, none⟩ = some (.int .i64 (tv : Int)) ∧ w.cell? ⟨bs, 0, none⟩ = some (.pointer (some ⟨p, 0, none⟩)) ∧ w.cell? ⟨p, 8, none⟩ = some (.slice (some ⟨rb, 0, none⟩) n n) ∧ w.cell? ⟨bv, 0, none⟩ = some (.int .i64 (v : Int)) ∧ w.cell? ⟨rb, v * 2, none⟩ = some (.int .i64 r.1) ∧ w.cell? ⟨rb, v * 2 + 1, none⟩ = some (.int .i64 r.2) ∧ w.cell? ⟨bg, 4, none⟩ = some (.slice (some ⟨b4, o4, none⟩) m4 c4) ∧ w.cell? ⟨b4, o4 + k, none⟩ = some (.int .i64 co)) hmx (by kernel_rfl) (fun hw hcl => ?_)
  refine anyS_take (i := 0) (v := .func (.yield l) #[] #[]) hw (by decide) hcl (noDefer_none rfl) rfl (by kernel_rfl) (by kernel_rfl) (by kernel_rfl) (fun _ _ _ h => h) ⟨Or.inl ⟨by rfl, ?y0⟩, fun _ => rfl⟩ HS0.out (fun hcl => ?_)
  case y0 =>
    rintro w ⟨c1, c2, c3, c4, c5, c6, c7, c8, c9⟩
    go_simp
  refine anyS_take (i := 1) (v := .pointer (some ⟨bg, 3, none⟩)) hw (by decide) hcl (noDefer_none rfl) rfl (by kernel_rfl) (by kernel_rfl) (by kernel_rfl) (fun _ _ _ h => h) ⟨Or.inl ⟨by rfl, ?y1⟩, fun _ => rfl⟩ HS0.out (fun hcl => ?_)
  case y1 =>
    rintro w ⟨c1, c2, c3, c4, c5, c6, c7, c8, c9⟩
    go_simp
  refine anyS_take (i := 2) (v := .slice (some ⟨b3, o3, none⟩) m3 c3) hw (by decide) hcl (noDefer_none rfl) rfl (by kernel_rfl) (by kernel_rfl) (by kernel_rfl) (fun _ _ _ h => h) ⟨Or.inl ⟨by rfl, ?y2⟩, fun _ => rfl⟩ HS0.out (fun hcl => ?_)
  case y2 =>
    rintro w ⟨c1, c2, c3, c4, c5, c6, c7, c8, c9⟩
    go_simp
  refine anyS_take (i := 3) (v := .int .i64 (k : Int)) hw (by decide) hcl (noDefer_none rfl) rfl (by kernel_rfl) (by kernel_rfl) (by kernel_rfl) (fun _ _ _ h => h) ⟨Or.inl ⟨by rfl, ?y3⟩, fun _ => rfl⟩ HS0.out (fun hcl => ?_)
  case y3 =>
    rintro w ⟨c1, c2, c3, c4, c5, c6, c7, c8, c9⟩
    go_simp
  refine anyS_take (i := 4) (v := .pointer (some ⟨b3, o3 + k, none⟩)) hw (by decide) hcl (noDefer_none rfl) rfl (by kernel_rfl) (by kernel_rfl) (by kernel_rfl) (fun _ _ _ h => h) ⟨Or.inl ⟨by rfl, ?y4⟩, fun _ => rfl⟩ HS0.out (fun hcl => ?_)
  case y4 =>
    rintro w ⟨c1, c2, c3, c4, c5, c6, c7, c8, c9⟩
    go_simp
    intro h
    omega
  refine anyS_take (i := 5) (v := .int .i64 (tv : Int)) hw (by decide) hcl (noDefer_none rfl) rfl (by kernel_rfl) (by kernel_rfl) (by kernel_rfl) (fun _ _ _ h => h) ⟨Or.inl ⟨by rfl, ?y5⟩, fun _ => rfl⟩ HS0.out (fun hcl => ?_)
  case y5 =>
    rintro w ⟨c1, c2, c3, c4, c5, c6, c7, c8, c9⟩
    go_simp
  refine anyS_take (i := 6) (v := .pointer (some ⟨p, 0, none⟩)) hw (by decide) hcl (noDefer_none rfl) rfl (by kernel_rfl) (by kernel_rfl) (by kernel_rfl) (fun _ _ _ h => h) ⟨Or.inl ⟨by rfl, ?y6⟩, fun _ => rfl⟩ HS0.out (fun hcl => ?_)
  case y6 =>
    rintro w ⟨c1, c2, c3, c4, c5, c6, c7, c8, c9⟩
    go_simp
  refine anyS_take (i := 7) (v := .pointer (some ⟨p, 0, none⟩)) hw (by decide) hcl (noDefer_none rfl) rfl (by kernel_rfl) (by kernel_rfl) (by kernel_rfl) (fun _ _ _ h => h) ⟨Or.inl ⟨by rfl, ?y7⟩, fun _ => rfl⟩ HS0.out (fun hcl => ?_)
  case y7 =>
    rintro w ⟨c1, c2, c3, c4, c5, c6, c7, c8, c9⟩
    go_simp
  refine anyS_take (i := 8) (v := .pointer (some ⟨p, 8, none⟩)) hw (by decide) hcl (noDefer_none rfl) rfl (by kernel_rfl) (by kernel_rfl) (by kernel_rfl) (fun _ _ _ h => h) ⟨Or.inl ⟨by rfl, ?y8⟩, fun _ => rfl⟩ HS0.out (fun hcl => ?_)
  case y8 =>
    rintro w ⟨c1, c2, c3, c4, c5, c6, c7, c8, c9⟩
    go_simp
  refine anyS_take (i := 9) (v := .slice (some ⟨rb, 0, none⟩) n n) hw (by decide) hcl (noDefer_none rfl) rfl (by kernel_rfl) (by kernel_rfl) (by kernel_rfl) (fun _ _ _ h => h) ⟨Or.inl ⟨by rfl, ?y9⟩, fun _ => rfl⟩ HS0.out (fun hcl => ?_)
  case y9 =>
    rintro w ⟨c1, c2, c3, c4, c5, c6, c7, c8, c9⟩
    go_simp
  refine anyS_take (i := 10) (v := .int .i64 (v : Int)) hw (by decide) hcl (noDefer_none rfl) rfl (by kernel_rfl) (by kernel_rfl) (by kernel_rfl) (fun _ _ _ h => h) ⟨Or.inl ⟨by rfl, ?y10⟩, fun _ => rfl⟩ HS0.out (fun hcl => ?_)
  case y10 =>
    rintro w ⟨c1, c2, c3, c4, c5, c6, c7, c8, c9⟩
    go_simp
  refine anyS_take (i := 11) (v := .pointer (some ⟨rb, v * 2, none⟩)) hw (by decide) hcl (noDefer_none rfl) rfl (by kernel_rfl) (by kernel_rfl) (by kernel_rfl) (fun _ _ _ h => h) ⟨Or.inl ⟨by rfl, ?y11⟩, fun _ => rfl⟩ HS0.out (fun hcl => ?_)
  case y11 =>
    rintro w ⟨c1, c2, c3, c4, c5, c6, c7, c8, c9⟩
    go_simp
  refine anyS_take (i := 12) (v := .agg #[.int .i64 r.1, .int .i64 r.2]) hw (by decide) hcl (noDefer_none rfl) rfl (by kernel_rfl) (by kernel_rfl) (by kernel_rfl) (fun _ _ _ h => h) ⟨Or.inl ⟨by rfl, ?y12⟩, fun _ => rfl⟩ HS0.out (fun hcl => ?_)
  case y12 =>
    rintro w ⟨c1, c2, c3, c4, c5, c6, c7, c8, c9⟩
    go_simp
  refine anyS_take (i := 13) (v := .pointer (some ⟨bg, 4, none⟩)) hw (by decide) hcl (noDefer_none rfl) rfl (by kernel_rfl) (by kernel_rfl) (by kernel_rfl) (fun _ _ _ h => h) ⟨Or.inl ⟨by rfl, ?y13⟩, fun _ => rfl⟩ HS0.out (fun hcl => ?_)
  case y13 =>
    rintro w ⟨c1, c2, c3, c4, c5, c6, c7, c8, c9⟩
    go_simp
  refine anyS_take (i := 14) (v := .slice (some ⟨b4, o4, none⟩) m4 c4) hw (by decide) hcl (noDefer_none rfl) rfl (by kernel_rfl) (by kernel_rfl) (by kernel_rfl) (fun _ _ _ h => h) ⟨Or.inl ⟨by rfl, ?y14⟩, fun _ => rfl⟩ HS0.out (fun hcl => ?_)
  case y14 =>
    rintro w ⟨c1, c2, c3, c4, c5, c6, c7, c8, c9⟩
    go_simp
  refine anyS_take (i := 15) (v := .int .i64 (k : Int)) hw (by decide) hcl (noDefer_none rfl) rfl (by kernel_rfl) (by kernel_rfl) (by kernel_rfl) (fun _ _ _ h => h) ⟨Or.inl ⟨by rfl, ?y15⟩, fun _ => rfl⟩ HS0.out (fun hcl => ?_)
  case y15 =>
    rintro w ⟨c1, c2, c3, c4, c5, c6, c7, c8, c9⟩
    go_simp
  refine anyS_take (i := 16) (v := .pointer (some ⟨b4, o4 + k, none⟩)) hw (by decide) hcl (noDefer_none rfl) rfl (by kernel_rfl) (by kernel_rfl) (by kernel_rfl) (fun _ _ _ h => h) ⟨Or.inl ⟨by rfl, ?y16⟩, fun _ => rfl⟩ HS0.out (fun hcl => ?_)
  case y16 =>
    rintro w ⟨c1, c2, c3, c4, c5, c6, c7, c8, c9⟩
    go_simp
    intro h
    omega
  refine anyS_take (i := 17) (v := .int .i64 co) hw (by decide) hcl (noDefer_none rfl) rfl (by kernel_rfl) (by kernel_rfl) (by kernel_rfl) (fun _ _ _ h => h) ⟨Or.inl ⟨by rfl, ?y17⟩, fun _ => rfl⟩ HS0.out (fun hcl => ?_)
  case y17 =>
    rintro w ⟨c1, c2, c3, c4, c5, c6, c7, c8, c9⟩
    go_simp
  refine anyS_one (i := 18) (by kernel_rfl) (wpOpIn_step rfl (fun K hK => ?_))
  go_simp
  refine ⟨trivial, (callsIn_wide.2 (after_any r co _ HR12.out.1 HR12.out.2 HCO.out)).mono ?_⟩
  rintro e w1 ⟨rfl, hx⟩
  have HXW : Hid (Nx wr w1) := Nx.trans (Nx.refl wr).drew hx
  obtain ⟨fn, tmps, assign, body, hy, hR⟩ := HY.out (outK G r v k) (tv, aft r co) w1 HOKX.out (abides_nx HJ.out HJk.out HXW.out) HNL.out
  have HR : Hid (RoundIn Fence.wide m Try.prog l fn tmps assign body w1 _) := hR.mono (fun e W' h => yb_of h)
  dsimp only [encA] at hy
  clear hR hx
  refine hK _ _ ⟨Or.inr ⟨cellq HXW.out y1, cellq HXW.out y3, cellq HXW.out y5, cellq HXW.out y6, cellq HXW.out x2, cellq HXW.out y7, cellq HXW.out y8, cellq HXW.out y2, cellq HXW.out y4⟩, ?_⟩
  clear hK K
  refine anyS_one (i := 19) (by kernel_rfl) (wpOpIn_step rfl (fun K hK => ?_))
  go_simp
  refine HR.out.mono ?_
  rintro e w3 ⟨bb, rfl, hbt, hbf⟩
  have HI1 : Hid (ITC w1 bg bv bs p rb n v b2 o2 m2 c2 (some ⟨b3, o3, none⟩) m3 c3 (some ⟨b4, o4, none⟩) m4 c4 G r) := HI.out.kept (fun b o u h => cellq HXW.out h)
  refine hK _ _ ⟨Or.inl (Nat.le_refl _), ?_⟩
  clear hK K hy
  refine anyS_one (i := 20) (by kernel_rfl) (wpOpIn_step rfl (fun K hK => ?_))
  go_simp
  refine hK _ _ ⟨Or.inl (by decide), ?_⟩
  clear hK K
  refine anyS_done (by kernel_rfl) ?_ _
  clear hw hcl HS0 y1 y2 y3 y4 y5 y6 y7 y8 x1 x2 x3 d1 d1'
  cases bb
  · have HF : Hid (Jx (outK G r v k ++ [(tv, aft r co)]) w3) := hbf.out rfl
    clear hbt hbf
    go_wp2
    refine bodyPost_ret (results_none rfl _ _ _) rfl ?_
    exact ⟨⟨_, rfl⟩, Or.inr ⟨_, ⟨k, HK.out.1, by rw [HKE.out]; exact hlt, HOUT.out.symm⟩, HF.out⟩⟩
  · have HF : Hid (J (outK G r v (k + 1)) w3) := by unfold Hid; rw [HOUT.out]; exact (hbt.out rfl).1
    have HI3 : Hid (ITC w3 bg bv bs p rb n v b2 o2 m2 c2 (some ⟨b3, o3, none⟩) m3 c3 (some ⟨b4, o4, none⟩) m4 c4 G r) := (hbt.out rfl).2 HI1.out
    have HK1 : Hid (fst G v ≤ k + 1 ∧ k + 1 ≤ ke) := ⟨by have := HK.out.1; omega, by omega⟩
    clear hbt hbf
    go_wp2
    go_roundw
    case rel => exact ⟨k + 1, HK1, by go_num, HI3, HF⟩
    case measure => simp [intOf]; omega
end Go.Proofs.Yticooljejlkbfaa
