import Derived.Test.YticooljejlkbfaaPN
namespace Go.Proofs.Yticooljejlkbfaa
open Go.RowKit Go.Sort Go.Maps
set_option linter.unusedVariables false
set_option maxRecDepth 100000

theorem SB.gcell {w : World} {p : Nat} {g0 g1 g2 g3 g4 g5 g6 : Value} {t : Int} {rb n q : Nat} {sv : Value} {b : Rk} (h : SB w p [g0, g1, g2, g3, g4, g5, g6] t rb n q sv b) : w.cell? ⟨p, 0, none⟩ = some g0 ∧ w.cell? ⟨p, 1, none⟩ = some g1 ∧ w.cell? ⟨p, 2, none⟩ = some g2 ∧ w.cell? ⟨p, 3, none⟩ = some g3 ∧ w.cell? ⟨p, 4, none⟩ = some g4 ∧ w.cell? ⟨p, 5, none⟩ = some g5 ∧ w.cell? ⟨p, 6, none⟩ = some g6 := by
  simp [World.cell?, h.2]
def endB (eo : Nat → Int) (t : Int) (K : Nat → Rk) (b : Rk) (v : Nat) : Bool := (eo v == t) && ((K v).1 == b.1 && (K v).2 == b.2)
theorem endB_iff (eo : Nat → Int) (t : Int) (K : Nat → Rk) (b : Rk) (v : Nat) : endB eo t K b v = true ↔ EndP eo t K b v := by
  have e : (K v = b) ↔ ((K v).1 = b.1 ∧ (K v).2 = b.2) := ⟨fun h => by rw [h]; exact ⟨rfl, rfl⟩, fun h => Prod.ext h.1 h.2⟩
  unfold endB EndP
  simp [e]

set_option maxHeartbeats 8000000 in
theorem ends_any (B p rb n q : Nat) (a0 : Option Addr) (m0 c0 : Nat) (g1 g2 g3 g4 g5 g6 : Value) (G : Gr) (t : Int) (sv : Value) (b : Rk) (K : Nat → Rk) (v : Nat) (w : World) (hs : SB w p [.slice a0 m0 c0, g1, g2, g3, g4, g5, g6] t rb n q sv b) (hk : RKM w rb n K) (hg : HInts B w (.slice a0 m0 c0) G.eo) (hn : G.eo.length = n) (hv : v < n) :
    Calls Try.prog 56 #[.pointer (some ⟨p, 0, none⟩), .int .i64 (v : Int)] w fun e w' => e = .returned (.bool (endB (eoG G) t K b v)) ∧ Nx w w' := by
  obtain ⟨e0, b0, o0, ha0, hc0⟩ := hg.row (by omega)
  subst ha0
  have x0 : w.cell? ⟨b0, o0 + v, none⟩ = some (.int .i64 (eoG G v)) := hc0 v (by omega)
  have k0 := hs.gcell.1
  have k7 := hs.cell.1
  have k8 := hs.cell.2.1
  have k11 := hs.cell.2.2.2.2.1
  have k12 := hs.cell.2.2.2.2.2
  have r1 := hk.c1 hv
  have r2 := hk.c2 hv
  have hv0 : (v : Int) < m0 := by omega
  have hvn : (v : Int) < n := by omega
  have hEQ := fun W : World => eqRank (K v).1 (K v).2 b.1 b.2 W
  have HD : Hid (endB (eoG G) t K b v = ((eoG G v == t) && ((K v).1 == b.1 && (K v).2 == b.2))) := rfl
  clear hs hk hg e0 hc0
  generalize (K v).1 = a1 at *
  generalize (K v).2 = a2 at *
  generalize b.1 = b1 at *
  generalize b.2 = b2 at *
  generalize eoG G v = ev at *
  by_cases he : ev = t
  · have d1 : (ev == t) = true := by simpa using he
    clear he
    rw [d1, Bool.true_and] at HD
    go_enter Try.func56, Try.ntmps56
    go_wp2
    go_quiet (fail)
    go_wp2
    go_ret
    exact ⟨ret_bool HD.out.symm, nx_drewN _ _⟩
  · have d1 : (ev == t) = false := by simpa using he
    clear he
    rw [d1, Bool.false_and] at HD
    go_enter Try.func56, Try.ntmps56
    go_wp2
    go_quiet (fail)
    go_wp2
    go_ret
    exact ⟨ret_bool HD.out.symm, nx_drewN _ _⟩

/-- what onward makes: the copy of the graph, the vertex, the search -/
structure OWB (w : World) (bg bv bs p v : Nat) (gv : List Value) : Prop where
  g : Blk w bg (List.toArray gv)
  v : Blk w bv #[.int .i64 (v : Int)]
  s : Blk w bs #[.pointer (some ⟨p, 0, none⟩)]
set_option maxHeartbeats 8000000 in
theorem onward_any (p rb n q : Nat) (g0 g1 g2 g3 g4 g5 g6 : Value) (t : Int) (sv : Value) (b : Rk) (v : Nat) (w : World) (hs : SB w p [g0, g1, g2, g3, g4, g5, g6] t rb n q sv b) (hsl : ∀ x ∈ [g0, g1, g2, g3, g4, g5, g6], ∃ a m c, x = .slice a m c) :
    Calls Try.prog 54 #[.pointer (some ⟨p, 0, none⟩), .int .i64 (v : Int)] w fun e w' => ∃ bg bv bs, e = .returned (.func (.func 65) #[] #[.pointer (some ⟨bg, 0, none⟩), .pointer (some ⟨bv, 0, none⟩), .pointer (some ⟨bs, 0, none⟩)]) ∧ OWB w' bg bv bs p v [g0, g1, g2, g3, g4, g5, g6] ∧ (w.heap.size ≤ bg ∧ w.heap.size ≤ bv ∧ w.heap.size ≤ bs) ∧ Nx w w' := by
  have hmf : ∀ (fn : Fn) (first cap : Array Value) (w : World), (Instr.makeFunc fn first cap).run Try.prog w = .ok (.func fn first cap) w := fun _ _ _ _ => rfl
  obtain ⟨a0, m0, c0, rfl⟩ := hsl g0 (by simp)
  obtain ⟨a1, m1, c1, rfl⟩ := hsl g1 (by simp)
  obtain ⟨a2, m2, c2, rfl⟩ := hsl g2 (by simp)
  obtain ⟨a3, m3, c3, rfl⟩ := hsl g3 (by simp)
  obtain ⟨a4, m4, c4, rfl⟩ := hsl g4 (by simp)
  obtain ⟨a5, m5, c5, rfl⟩ := hsl g5 (by simp)
  obtain ⟨a6, m6, c6, rfl⟩ := hsl g6 (by simp)
  clear hsl
  have HS : Hid (SB w p [.slice a0 m0 c0, .slice a1 m1 c1, .slice a2 m2 c2, .slice a3 m3 c3, .slice a4 m4 c4, .slice a5 m5 c5, .slice a6 m6 c6] t rb n q sv b) := hs
  have HX : Hid (Nx w ((w.alloc (.cells #[.pointer (some ⟨p, 0, none⟩)] 51)).alloc (.cells #[.int .i64 (v : Int)] 2))) := box2 _ _ _
  have bs := (Blk.new w #[.pointer (some ⟨p, 0, none⟩)] 51 _ rfl).alloc (.cells #[.int .i64 (v : Int)] 2)
  have bv := Blk.new (w.alloc (.cells #[.pointer (some ⟨p, 0, none⟩)] 51)) #[.int .i64 (v : Int)] 2 (w.heap.size + 1) (size_alloc' _ _).symm
  have HBS : Hid (Blk ((w.alloc (.cells #[.pointer (some ⟨p, 0, none⟩)] 51)).alloc (.cells #[.int .i64 (v : Int)] 2)) w.heap.size #[.pointer (some ⟨p, 0, none⟩)]) := bs
  have HBV : Hid (Blk ((w.alloc (.cells #[.pointer (some ⟨p, 0, none⟩)] 51)).alloc (.cells #[.int .i64 (v : Int)] 2)) (w.heap.size + 1) #[.int .i64 (v : Int)]) := bv
  have HZ : Hid (((w.alloc (.cells #[.pointer (some ⟨p, 0, none⟩)] 51)).alloc (.cells #[.int .i64 (v : Int)] 2)).heap.size = w.heap.size + 2) := by unfold Hid; rw [size_alloc', size_alloc']
  clear bs bv hs
  go_enter Try.func54, Try.ntmps54
  go_upto_region 1 with fail
  generalize (w.alloc (.cells #[.pointer (some ⟨p, 0, none⟩)] 51)).alloc (.cells #[.int .i64 (v : Int)] 2) = w1 at *
  have hs := HS.out.kept (HX.out.block p HS.out.lt)
  obtain ⟨k0, k1, k2, k3, k4, k5, k6⟩ := hs.gcell
  have s0 : w1.cell? ⟨w.heap.size, 0, none⟩ = some (.pointer (some ⟨p, 0, none⟩)) := HBS.out.cell (i := 0) rfl
  clear hs
  go_wp2
  go_ret
  refine ⟨_, _, _, rfl, ⟨Blk.new w1 _ _ _ rfl, HBV.out.alloc _, HBS.out.alloc _⟩, ⟨?_, Nat.le_succ _, Nat.le_refl _⟩, HX.out.alloc _⟩
  have := HZ.out
  omega
end Go.Proofs.Yticooljejlkbfaa
