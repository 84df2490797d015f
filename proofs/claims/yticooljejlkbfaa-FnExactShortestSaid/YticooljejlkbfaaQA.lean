import Derived.Test.YticooljejlkbfaaPY
namespace Go.Proofs.Yticooljejlkbfaa
open Go.RowKit Go.Sort Go.Maps Go.Shelf
set_option linter.unusedVariables false
set_option maxRecDepth 100000

theorem infoRank : (Try.prog.info? 56).map (fun i => (i.zero, i.size, i.bytes)) = some (some (.agg #[.int .i64 0, .int .i64 0]), 2, 16) := by kernel_rfl
theorem make_ranks (n : Nat) (h : n ≤ 100000) (w : World) : (Instr.makeSlice 53 (.int .i64 (n : Int)) (.int .i64 (n : Int))).run Try.prog w = .ok (.slice (some ⟨w.heap.size, 0, none⟩) n n) (w.alloc (.cells (madeCells #[.int .i64 0, .int .i64 0] (n * 2)) 56)) := by
  obtain ⟨i, hi, hzz⟩ := Option.map_eq_some_iff.1 infoRank
  simp only [Prod.mk.injEq] at hzz
  obtain ⟨hz, hs, hb⟩ := hzz
  have hr := run_make (P := Try.prog) w 53 56 i _ Try.underlying53 hi hz .i64 .i64 n n (by omega) (Int.le_refl _) (by rw [hb]; omega) (by omega)
  simp only [Int.toNat_natCast, hs] at hr
  exact hr
theorem ranks_new {w : World} {rb n : Nat} (h : w.heap[rb]? = some (.cells (madeCells #[.int .i64 0, .int .i64 0] (n * 2)) 56 (0, 0))) : RKM w rb n (fun _ => (0, 0)) := by
  refine ⟨_, h, by rw [size_madeCells], fun v hv => ?_⟩
  constructor
  · simp [madeCells, show v * 2 < n * 2 by omega]
  · simp [madeCells, show v * 2 + 1 < n * 2 by omega, show (v * 2 + 1) % 2 = 1 by omega]
/-- the search ahead of its heap -/
def NS (w : World) (sb p rb n : Nat) (a0 : Option Addr) (m0 c0 : Nat) (a1 : Option Addr) (m1 c1 : Nat) (a2 : Option Addr) (m2 c2 : Nat) (a3 : Option Addr) (m3 c3 : Nat) (a4 : Option Addr) (m4 c4 : Nat) (a5 : Option Addr) (m5 c5 : Nat) (a6 : Option Addr) (m6 c6 : Nat) (t : Int) : Prop := w.heap[sb]? = some (.cells #[.pointer (some ⟨p, 0, none⟩)] 51 (0, 0)) ∧ w.heap[p]? = some (.cells #[.slice a0 m0 c0, .slice a1 m1 c1, .slice a2 m2 c2, .slice a3 m3 c3, .slice a4 m4 c4, .slice a5 m5 c5, .slice a6 m6 c6, .int .i64 t, .slice (some ⟨rb, 0, none⟩) n n, .pointer none, .slice none 0 0, .int .i64 0, .int .i64 0] 58 (0, 0)) ∧ w.heap[rb]? = some (.cells (madeCells #[.int .i64 0, .int .i64 0] (n * 2)) 56 (0, 0))

theorem frozenq {w w' : World} {p o : Nat} (k : Nx w w') (hp : p < w.heap.size) (h : w.frozen? ⟨p, o, none⟩ = false) : w'.frozen? ⟨p, o, none⟩ = false := by
  simp only [World.frozen?, k.block p hp] at h ⊢
  exact h
set_option maxHeartbeats 8000000 in
theorem newSearch_any (w : World) (n : Nat) (a0 : Option Addr) (m0 c0 : Nat) (a1 : Option Addr) (m1 c1 : Nat) (a2 : Option Addr) (m2 c2 : Nat) (a3 : Option Addr) (m3 c3 : Nat) (a4 : Option Addr) (m4 c4 : Nat) (a5 : Option Addr) (m5 c5 : Nat) (a6 : Option Addr) (m6 c6 : Nat) (t : Int) (hn : m0 = n) (hn6 : n ≤ 6000) :
    Calls Try.prog 37 #[.agg #[.slice a0 m0 c0, .slice a1 m1 c1, .slice a2 m2 c2, .slice a3 m3 c3, .slice a4 m4 c4, .slice a5 m5 c5, .slice a6 m6 c6], .int .i64 t] w fun e w' => ∃ sb p q mb rb, e = .returned (.pointer (some ⟨p, 0, none⟩)) ∧ SR w.heap.size w' sb p q mb rb n [.slice a0 m0 c0, .slice a1 m1 c1, .slice a2 m2 c2, .slice a3 m3 c3, .slice a4 m4 c4, .slice a5 m5 c5, .slice a6 m6 c6] t (0, 0) (.slice none 0 0) (.slice none 0 0) (fun _ => (0, 0)) [] (.map []) [] ∧ Nx w w' := by
  subst hn
  have hmk := make_ranks m0 (by omega)
  have hmf : ∀ (fn : Fn) (first cap : Array Value) (w : World), (Instr.makeFunc fn first cap).run Try.prog w = .ok (.func fn first cap) w := fun _ _ _ _ => rfl
  have HX1 : Hid (Nx w (w.alloc (.cells #[.slice a0 m0 c0, .slice a1 m1 c1, .slice a2 m2 c2, .slice a3 m3 c3, .slice a4 m4 c4, .slice a5 m5 c5, .slice a6 m6 c6] 29))) := box1 _ _
  have HB1 : Hid (Blk (w.alloc (.cells #[.slice a0 m0 c0, .slice a1 m1 c1, .slice a2 m2 c2, .slice a3 m3 c3, .slice a4 m4 c4, .slice a5 m5 c5, .slice a6 m6 c6] 29)) w.heap.size #[.slice a0 m0 c0, .slice a1 m1 c1, .slice a2 m2 c2, .slice a3 m3 c3, .slice a4 m4 c4, .slice a5 m5 c5, .slice a6 m6 c6]) := Blk.new w _ _ _ rfl
  have hz1 : (w.alloc (.cells #[.slice a0 m0 c0, .slice a1 m1 c1, .slice a2 m2 c2, .slice a3 m3 c3, .slice a4 m4 c4, .slice a5 m5 c5, .slice a6 m6 c6] 29)).heap.size = w.heap.size + 1 := size_alloc' _ _
  go_enter Try.func37, Try.ntmps37
  go_upto_region 1 with fail
  generalize w.alloc (.cells #[.slice a0 m0 c0, .slice a1 m1 c1, .slice a2 m2 c2, .slice a3 m3 c3, .slice a4 m4 c4, .slice a5 m5 c5, .slice a6 m6 c6] 29) = w1 at *
  have HZ1 : Hid (w1.heap.size = w.heap.size + 1) := hz1
  clear hz1
  have k0 : w1.cell? ⟨w.heap.size, 0, none⟩ = some (.slice a0 m0 c0) := HB1.out.cell (i := 0) rfl
  have k1 : w1.cell? ⟨w.heap.size, 1, none⟩ = some (.slice a1 m1 c1) := HB1.out.cell (i := 1) rfl
  have k2 : w1.cell? ⟨w.heap.size, 2, none⟩ = some (.slice a2 m2 c2) := HB1.out.cell (i := 2) rfl
  have k3 : w1.cell? ⟨w.heap.size, 3, none⟩ = some (.slice a3 m3 c3) := HB1.out.cell (i := 3) rfl
  have k4 : w1.cell? ⟨w.heap.size, 4, none⟩ = some (.slice a4 m4 c4) := HB1.out.cell (i := 4) rfl
  have k5 : w1.cell? ⟨w.heap.size, 5, none⟩ = some (.slice a5 m5 c5) := HB1.out.cell (i := 5) rfl
  have k6 : w1.cell? ⟨w.heap.size, 6, none⟩ = some (.slice a6 m6 c6) := HB1.out.cell (i := 6) rfl
  go_cut [5] from 6 (fun s5 wc => ∃ sb p rb, s5 = .pointer (some ⟨sb, 0, none⟩) ∧ Hid (w1.heap.size ≤ sb ∧ w1.heap.size ≤ p ∧ w1.heap.size ≤ rb) ∧ Hid (NS wc sb p rb m0 a0 m0 c0 a1 m1 c1 a2 m2 c2 a3 m3 c3 a4 m4 c4 a5 m5 c5 a6 m6 c6 t) ∧ Hid (Nx w1 wc))
  case first =>
    go_region_held3 (fun w' => w'.cell? ⟨w.heap.size, 0, none⟩ = some (.slice a0 m0 c0) ∧ w'.cell? ⟨w.heap.size, 1, none⟩ = some (.slice a1 m1 c1) ∧ w'.cell? ⟨w.heap.size, 2, none⟩ = some (.slice a2 m2 c2) ∧ w'.cell? ⟨w.heap.size, 3, none⟩ = some (.slice a3 m3 c3) ∧ w'.cell? ⟨w.heap.size, 4, none⟩ = some (.slice a4 m4 c4) ∧ w'.cell? ⟨w.heap.size, 5, none⟩ = some (.slice a5 m5 c5) ∧ w'.cell? ⟨w.heap.size, 6, none⟩ = some (.slice a6 m6 c6)) (exact ⟨cellq (by (repeat (first | with_reducible assumption | with_reducible exact Nx.refl _ | with_reducible refine Nx.drew ?_ | with_reducible refine Nx.alloc ?_ _))) k0, cellq (by (repeat (first | with_reducible assumption | with_reducible exact Nx.refl _ | with_reducible refine Nx.drew ?_ | with_reducible refine Nx.alloc ?_ _))) k1, cellq (by (repeat (first | with_reducible assumption | with_reducible exact Nx.refl _ | with_reducible refine Nx.drew ?_ | with_reducible refine Nx.alloc ?_ _))) k2, cellq (by (repeat (first | with_reducible assumption | with_reducible exact Nx.refl _ | with_reducible refine Nx.drew ?_ | with_reducible refine Nx.alloc ?_ _))) k3, cellq (by (repeat (first | with_reducible assumption | with_reducible exact Nx.refl _ | with_reducible refine Nx.drew ?_ | with_reducible refine Nx.alloc ?_ _))) k4, cellq (by (repeat (first | with_reducible assumption | with_reducible exact Nx.refl _ | with_reducible refine Nx.drew ?_ | with_reducible refine Nx.alloc ?_ _))) k5, cellq (by (repeat (first | with_reducible assumption | with_reducible exact Nx.refl _ | with_reducible refine Nx.drew ?_ | with_reducible refine Nx.alloc ?_ _))) k6⟩) (fail)
    all_goals go_wp2
    all_goals go_meet
    · exact ⟨w1.heap.size + 1 + 1, w1.heap.size + 1, w1.heap.size, rfl, ⟨by omega, by omega, by omega⟩, ⟨by ((repeat (first | with_reducible refine hn_drew ?_ | with_reducible refine hn_base ?_ | with_reducible refine hn_alloc ?_)); (first | rfl | exact (size_alloc' _ _).symm | (simp; done) | (simp [size_alloc']; done))), by ((repeat (first | with_reducible refine hn_drew ?_ | with_reducible refine hn_base ?_ | with_reducible refine hn_alloc ?_)); (first | rfl | exact (size_alloc' _ _).symm | (simp; done) | (simp [size_alloc']; done))), by ((repeat (first | with_reducible refine hn_drew ?_ | with_reducible refine hn_base ?_ | with_reducible refine hn_alloc ?_)); (first | rfl | exact (size_alloc' _ _).symm | (simp; done) | (simp [size_alloc']; done)))⟩, by (unfold Hid; (repeat (first | with_reducible assumption | with_reducible exact Nx.refl _ | with_reducible refine Nx.drew ?_ | with_reducible refine Nx.alloc ?_ _)))⟩
    · exact ⟨w1.heap.size + 1, w1.heap.size + 1 + 1, w1.heap.size, rfl, ⟨by omega, by omega, by omega⟩, ⟨by ((repeat (first | with_reducible refine hn_drew ?_ | with_reducible refine hn_base ?_ | with_reducible refine hn_alloc ?_)); (first | rfl | exact (size_alloc' _ _).symm | (simp; done) | (simp [size_alloc']; done))), by ((repeat (first | with_reducible refine hn_drew ?_ | with_reducible refine hn_base ?_ | with_reducible refine hn_alloc ?_)); (first | rfl | exact (size_alloc' _ _).symm | (simp; done) | (simp [size_alloc']; done))), by ((repeat (first | with_reducible refine hn_drew ?_ | with_reducible refine hn_base ?_ | with_reducible refine hn_alloc ?_)); (first | rfl | exact (size_alloc' _ _).symm | (simp; done) | (simp [size_alloc']; done)))⟩, by (unfold Hid; (repeat (first | with_reducible assumption | with_reducible exact Nx.refl _ | with_reducible refine Nx.drew ?_ | with_reducible refine Nx.alloc ?_ _)))⟩
    · exact ⟨w1.heap.size, w1.heap.size + 1 + 1, w1.heap.size + 1, rfl, ⟨by omega, by omega, by omega⟩, ⟨by ((repeat (first | with_reducible refine hn_drew ?_ | with_reducible refine hn_base ?_ | with_reducible refine hn_alloc ?_)); (first | rfl | exact (size_alloc' _ _).symm | (simp; done) | (simp [size_alloc']; done))), by ((repeat (first | with_reducible refine hn_drew ?_ | with_reducible refine hn_base ?_ | with_reducible refine hn_alloc ?_)); (first | rfl | exact (size_alloc' _ _).symm | (simp; done) | (simp [size_alloc']; done))), by ((repeat (first | with_reducible refine hn_drew ?_ | with_reducible refine hn_base ?_ | with_reducible refine hn_alloc ?_)); (first | rfl | exact (size_alloc' _ _).symm | (simp; done) | (simp [size_alloc']; done)))⟩, by (unfold Hid; (repeat (first | with_reducible assumption | with_reducible exact Nx.refl _ | with_reducible refine Nx.drew ?_ | with_reducible refine Nx.alloc ?_ _)))⟩
  case rest =>
  obtain ⟨sb, p, rb, hs5, HL, HNS, HXc⟩ := hcut
  subst hs5
  have x0 : wc.cell? ⟨sb, 0, none⟩ = some (.pointer (some ⟨p, 0, none⟩)) := by simp [World.cell?, HNS.out.1]
  have x1 : wc.cell? ⟨p, 9, none⟩ = some (.pointer none) := by simp [World.cell?, HNS.out.2.1]
  have hsp : sb ≠ p := fun e => by have h1 := HNS.out.1; rw [e, HNS.out.2.1] at h1; simp at h1
  clear k0 k1 k2 k3 k4 k5 k6
  have f0 : wc.frozen? ⟨p, 9, none⟩ = false := by simp [World.frozen?, HNS.out.2.1]
  have hpl : p < wc.heap.size := (Array.getElem?_eq_some_iff.1 HNS.out.2.1).1
  have y0 : (wc.setCell ⟨p, 9, none⟩ (.pointer (some ⟨wc.heap.size + 1, 0, none⟩))).cell? ⟨sb, 0, none⟩ = some (.pointer (some ⟨p, 0, none⟩)) := by simp [World.cell?, World.setCell, Array.getElem?_modify, Ne.symm hsp, HNS.out.1]
  have g0 : (wc.setCell ⟨p, 9, none⟩ (.pointer (some ⟨wc.heap.size + 1, 0, none⟩))).frozen? ⟨p, 9, none⟩ = false := by simp [World.frozen?, World.setCell, Array.getElem?_modify, HNS.out.2.1]
  have hz2 : (wc.setCell ⟨p, 9, none⟩ (.pointer (some ⟨wc.heap.size + 1, 0, none⟩))).heap.size = wc.heap.size := by simp [World.setCell]
  have hpl2 : p < (wc.setCell ⟨p, 9, none⟩ (.pointer (some ⟨wc.heap.size + 1, 0, none⟩))).heap.size := by rw [hz2]; exact hpl
  have hnh : ∀ w, Calls Try.prog 49 #[.func (.func 50) #[] #[.pointer (some ⟨sb, 0, none⟩)]] w fun e w' => e = .returned (.pointer (some ⟨w.heap.size + 1, 0, none⟩)) ∧ w' = (w.alloc (.map #[] 0)).alloc (.cells #[cmpF sb, .slice none 0 0, .map (some w.heap.size)] 84) := fun w => newHeap_any sb w
  go_upto_region 2 with fail
  go_region_held3 (fun w' => w'.cell? ⟨sb, 0, none⟩ = some (.pointer (some ⟨p, 0, none⟩)) ∧ w'.frozen? ⟨p, 9, none⟩ = false) (first | exact ⟨x0, f0⟩ | (refine ⟨cellq ?_ x0, frozenq ?_ hpl f0⟩ <;> ((repeat (first | with_reducible assumption | with_reducible exact Nx.refl _ | with_reducible refine Nx.drew ?_ | with_reducible refine Nx.alloc ?_ _)); done)) | (refine ⟨cellq ?_ y0, frozenq ?_ hpl2 g0⟩ <;> ((repeat (first | with_reducible assumption | with_reducible exact Nx.refl _ | with_reducible refine Nx.drew ?_ | with_reducible refine Nx.alloc ?_ _)); done))) (first | (go_at_call 49; refine (hnh _).mono ?_; rintro e w' ⟨rfl, rfl⟩))
  go_wp2
  go_ret
  have hb2 : (wc.setCell ⟨p, 9, none⟩ (.pointer (some ⟨wc.heap.size + 1, 0, none⟩))).heap[p]? = some (.cells #[.slice a0 m0 c0, .slice a1 m1 c1, .slice a2 m2 c2, .slice a3 m3 c3, .slice a4 m4 c4, .slice a5 m5 c5, .slice a6 m6 c6, .int .i64 t, .slice (some ⟨rb, 0, none⟩) m0 m0, .pointer (some ⟨wc.heap.size + 1, 0, none⟩), .slice none 0 0, .int .i64 0, .int .i64 0] 58 (0, 0)) := by simp [World.setCell, Array.getElem?_modify, HNS.out.2.1]
  have hb1 : (wc.setCell ⟨p, 9, none⟩ (.pointer (some ⟨wc.heap.size + 1, 0, none⟩))).heap[sb]? = some (.cells #[.pointer (some ⟨p, 0, none⟩)] 51 (0, 0)) := by simp [World.setCell, Array.getElem?_modify, Ne.symm hsp, HNS.out.1]
  have hrp : rb ≠ p := fun e => by have h1 := HNS.out.2.2; rw [e, HNS.out.2.1] at h1; simp at h1
  have hb3 : (wc.setCell ⟨p, 9, none⟩ (.pointer (some ⟨wc.heap.size + 1, 0, none⟩))).heap[rb]? = some (.cells (madeCells #[.int .i64 0, .int .i64 0] (m0 * 2)) 56 (0, 0)) := by simp [World.setCell, Array.getElem?_modify, Ne.symm hrp, HNS.out.2.2]
  have hC : w.heap.size ≤ wc.heap.size := by have := HX1.out.size; have := HXc.out.size; omega
  have hw1 := HX1.out.size
  have hq := newHeap_hq w.heap.size sb m0 (fun _ => (0, 0)) (wc.setCell ⟨p, 9, none⟩ (.pointer (some ⟨wc.heap.size + 1, 0, none⟩))) (by rw [hz2]; exact hC)
  have hK : Nx w wc := HX1.out.trans HXc.out
  have hHL := HL.out
  have hlb : ∀ b, w1.heap.size ≤ b → w.heap.size ≤ b := fun b hb => by have := HZ1.out; omega
  rw [hz2] at hq
  have N3 : Nx (wc.setCell ⟨p, 9, none⟩ (.pointer (some ⟨wc.heap.size + 1, 0, none⟩))) ((((wc.setCell ⟨p, 9, none⟩ (.pointer (some ⟨wc.heap.size + 1, 0, none⟩))).alloc (.map #[] 0)).alloc (.cells #[cmpF sb, .slice none 0 0, .map (some wc.heap.size)] 84)).drew) := by (repeat (first | with_reducible assumption | with_reducible exact Nx.refl _ | with_reducible refine Nx.drew ?_ | with_reducible refine Nx.alloc ?_ _))
  have N4 : Nx ((((wc.setCell ⟨p, 9, none⟩ (.pointer (some ⟨wc.heap.size + 1, 0, none⟩))).alloc (.map #[] 0)).alloc (.cells #[cmpF sb, .slice none 0 0, .map (some wc.heap.size)] 84))) ((((wc.setCell ⟨p, 9, none⟩ (.pointer (some ⟨wc.heap.size + 1, 0, none⟩))).alloc (.map #[] 0)).alloc (.cells #[cmpF sb, .slice none 0 0, .map (some wc.heap.size)] 84)).drew) := by (repeat (first | with_reducible assumption | with_reducible exact Nx.refl _ | with_reducible refine Nx.drew ?_ | with_reducible refine Nx.alloc ?_ _))
  refine ⟨sb, p, wc.heap.size + 1, wc.heap.size, rb, rfl, ⟨(N3.block sb (Array.getElem?_eq_some_iff.1 hb1).1).trans hb1, ⟨rfl, (N3.block p (Array.getElem?_eq_some_iff.1 hb2).1).trans hb2⟩, (ranks_new hb3).next N3, ⟨hq.h.kept N4, hq.o, hq.j, hq.p, hq.v, hq.s⟩, ⟨rfl, Or.inl ⟨rfl, rfl⟩⟩, fun g e => by simp [Value.ownBlock] at e, hlb _ hHL.1, hlb _ hHL.2.1, by omega, by omega, hlb _ hHL.2.2⟩, Nx.trans (Below.setCell (p := ⟨p, 9, none⟩) hK (hlb p hHL.2.1) _) N3⟩
end Go.Proofs.Yticooljejlkbfaa
