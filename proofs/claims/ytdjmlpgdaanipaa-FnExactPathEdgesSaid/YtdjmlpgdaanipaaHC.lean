import Derived.Test.YtdjmlpgdaanipaaGC
import Derived.Test.YtdjmlpgdaanipaaHQ
import Derived.Test.YtdjmlpgdaanipaaGR
import Derived.Maps.AppendAt
import Derived.Deep.OwnRows
import Derived.Lib.SliceRun
import Derived.OwnWalk
namespace Go.Proofs.Ytdjmlpgdaanipaa
open Go.RowKit
set_option linter.unusedVariables false
set_option maxRecDepth 100000

theorem infoV : (Try.prog.info? 50).map (fun i => (i.zero, i.size, i.bytes)) = some (some (.agg #[.int .i64 0, .int .i64 0]), 2, 16) := by kernel_rfl
/-- the cells of n vertices -/
def vcells (X Y : Nat → Int) : Nat → List Value
  | 0 => []
  | n + 1 => vcells X Y n ++ [.int .i64 (X n), .int .i64 (Y n)]
theorem vcells_len (X Y : Nat → Int) (n : Nat) : (vcells X Y n).length = n * 2 := by
  induction n with
  | zero => rfl
  | succ n ih => simp [vcells, ih]; omega
theorem vcells_at (X Y : Nat → Int) {n i : Nat} (h : i < n) : (vcells X Y n)[i * 2]? = some (.int .i64 (X i)) ∧ (vcells X Y n)[i * 2 + 1]? = some (.int .i64 (Y i)) := by
  induction n with
  | zero => omega
  | succ n ih =>
    have hl := vcells_len X Y n
    unfold vcells
    by_cases e : i < n
    · rw [List.getElem?_append_left (by omega), List.getElem?_append_left (by omega)]
      exact ih e
    · have e' : i = n := by omega
      subst e'
      rw [List.getElem?_append_right (by omega), List.getElem?_append_right (by omega), hl]
      simp
def OwnV (C : Nat) (w : World) (v : Value) (X Y : Nat → Int) (n : Nat) : Prop := w.ownsRow C 50 2 v n (vcells X Y n)
theorem OwnV.held {C : Nat} {w : World} {v : Value} {X Y : Nat → Int} {n : Nat} (h : OwnV C w v X Y n) : HVs C w v n X Y := by
  rcases h.2 with ⟨rfl, h3⟩ | ⟨g, cap, cur, rfl, hg, hh, hc, hm, hs, ht⟩
  · subst h3
    exact ⟨none, 0, rfl, Nat.zero_le _, fun h0 => absurd h0 (Nat.lt_irrefl _)⟩
  · refine ⟨_, _, rfl, by omega, fun h0 => ⟨g, 0, rfl, hg, (Array.getElem?_eq_some_iff.1 hh).1, fun i hi => ?_⟩⟩
    have e := vcells_at X Y hi
    have f : ∀ q, q < n * 2 → cur[q]? = (vcells X Y n)[q]? := fun q hq => by
      have e2 : (cur.toList.take (n * 2))[q]? = (vcells X Y n)[q]? := by rw [ht]
      rw [List.getElem?_take_of_lt hq] at e2
      rw [← Array.getElem?_toList, e2]
    refine ⟨?_, ?_⟩
    · show w.cell? ⟨g, 0 + i * 2, none⟩ = _
      simp [World.cell?, hh, f (i * 2) (by omega), e.1]
    · show w.cell? ⟨g, 0 + i * 2 + 1, none⟩ = _
      simp [World.cell?, hh, f (i * 2 + 1) (by omega), e.2]
theorem OwnV.slice {C : Nat} {w : World} {v : Value} {X Y : Nat → Int} {n : Nat} (h : OwnV C w v X Y n) : ∃ a c, v = .slice a n c := by
  rcases h.2 with ⟨rfl, h2⟩ | ⟨g, cap, cur, rfl, _⟩
  · exact ⟨none, 0, by rw [h2]⟩
  · exact ⟨_, _, rfl⟩
theorem OwnV.lt {C : Nat} {w : World} {v : Value} {X Y : Nat → Int} {n : Nat} (h : OwnV C w v X Y n) : ∀ g, v.ownBlock = some g → C ≤ g ∧ g < w.heap.size := by
  intro g hg
  rcases h.2 with ⟨rfl, _⟩ | ⟨g', cap, cur, rfl, hb, hh, _⟩
  · simp [Value.ownBlock] at hg
  · simp [Value.ownBlock] at hg; subst hg; exact ⟨hb, (Array.getElem?_eq_some_iff.1 hh).1⟩
theorem size_box1 (w : World) (o : Obj) : (w.alloc o).heap.size = w.heap.size + 1 := Array.size_push _
theorem Blk.lower {C : Nat} {w w' : World} {b : Nat} {cs : Array Value} (h : Blk w b cs) (k : Below C w w') (hb : b < C) : Blk w' b cs := by
  obtain ⟨t, h⟩ := h
  exact ⟨t, (k.block b hb).trans h⟩
theorem ownV_nil (C : Nat) (w : World) (X Y : Nat → Int) : OwnV C w (.slice none 0 0) X Y 0 := ⟨rfl, .inl ⟨rfl, rfl⟩⟩

def rOk (G : Gr) (i : Nat) : Bool := inZ (iat G.eo i) G.sr.length && inZ (iat G.so i) 2000
def vVe (G : Gr) : Bool := decide (G.eo.length ≤ 6000) && ((G.so.length == G.eo.length) && (allN G.eo.length (rOk G) && ascN G.eo.length (ltVs (iat G.eo) (iat G.so))))

set_option maxHeartbeats 4000000 in
theorem validVertices_any (B : Nat) (v0 v1 v2 v3 v4 v5 v6 : Value) (G : Gr) (w : World) (h0 : HG B w v0 v1 v2 v3 v4 v5 v6 G) :
    Calls Try.prog 26 #[.agg #[v0, v1, v2, v3, v4, v5, v6]] w fun e w' => e = .returned (.bool (vVe G)) ∧ Nx w w' := by
  obtain ⟨ii, hi, hz0, hz1, hz2⟩ := info_parts infoV
  have HH : Hid (HG B w v0 v1 v2 v3 v4 v5 v6 G) := h0
  obtain ⟨⟨a0, c0, rfl, hn0, hk0⟩, ⟨a1, c1, rfl, hn1, hk1⟩, ⟨a2, c2, rfl, hn2, hk2⟩, ⟨a3, c3, rfl, hn3, hk3⟩, ⟨a4, c4, rfl, hn4, hk4⟩, ⟨a5, c5, rfl, hn5, hk5⟩, ⟨a6, c6, rfl, hn6, hk6⟩⟩ := h0
  have HM0 : Hid (G.eo.length ≤ maxLen) := hn0
  have HM5 : Hid (G.sr.length ≤ maxLen) := hn5
  unfold maxLen at hn0 hn1 hn2 hn3 hn4 hn5 hn6
  generalize hz0 : G.eo.length = n0 at *
  have Z0 : Hid (G.eo.length = n0) := hz0
  clear hz0
  generalize hz1 : G.so.length = n1 at *
  have Z1 : Hid (G.so.length = n1) := hz1
  clear hz1
  generalize hz2 : G.fi.length = n2 at *
  have Z2 : Hid (G.fi.length = n2) := hz2
  clear hz2
  generalize hz3 : G.tt.length = n3 at *
  have Z3 : Hid (G.tt.length = n3) := hz3
  clear hz3
  generalize hz4 : G.co.length = n4 at *
  have Z4 : Hid (G.co.length = n4) := hz4
  clear hz4
  generalize hz5 : G.sr.length = n5 at *
  have Z5 : Hid (G.sr.length = n5) := hz5
  clear hz5
  generalize hz6 : G.we.length = n6 at *
  have Z6 : Hid (G.we.length = n6) := hz6
  clear hz6
  by_cases e1 : n0 ≤ 6000
  case neg =>
    have d1 : decide (6000 < (n0 : Int)) = true := by simp; omega
    have HF : Hid (false = vVe G) := by unfold Hid vVe; rw [Z0.out, Z1.out]; simp [e1]
    go_enter Try.func26, Try.ntmps26
    go_wp2
    go_ret
    exact ⟨ret_bool HF.out, box1 _ _⟩
  have d1 : decide (6000 < (n0 : Int)) = false := by simp; omega
  by_cases e2 : n0 = n1
  case neg =>
    have d2 : ((n1 : Int) != (n0 : Int)) = true := by simp; omega
    have HF : Hid (false = vVe G) := by unfold Hid vVe; rw [Z0.out, Z1.out]; simp [Ne.symm e2]
    go_enter Try.func26, Try.ntmps26
    go_wp2
    go_ret
    exact ⟨ret_bool HF.out, box1 _ _⟩
  subst e2
  have d2 : ((n0 : Int) != (n0 : Int)) = false := by simp
  have HG1 : Hid (vVe G = (allN n0 (rOk G) && ascN n0 (ltVs (iat G.eo) (iat G.so)))) := by unfold Hid vVe; rw [Z0.out, Z1.out]; simp [e1]
  go_enter Try.func26, Try.ntmps26
  go_wp2
  clear d1 d2
  go_loopw [3, 23] (fun v i wr => ∃ k : Nat, k ≤ n0 ∧ i = .int .i64 k ∧ Hid (allTo (rOk G) k) ∧ Hid (OwnV (w.heap.size + 1) wr v (iat G.eo) (iat G.so) k) ∧ Hid (Below (w.heap.size + 1) (w.alloc (.cells #[.slice a0 n0 c0, .slice a1 n0 c1, .slice a2 n2 c2, .slice a3 n3 c3, .slice a4 n4 c4, .slice a5 n5 c5, .slice a6 n6 c6] 27)) wr)) (fun _ i _ => n0 - (intOf i).toNat)
  case atStart => exact ⟨0, Nat.zero_le _, rfl, allTo_zero _, ownV_nil _ _ _ _, Below.refl _ _⟩
  obtain ⟨k, hkn, rfl, HA, HO, HN⟩ := hrel
  have BA := (Blk.new w #[.slice a0 n0 c0, .slice a1 n0 c1, .slice a2 n2 c2, .slice a3 n3 c3, .slice a4 n4 c4, .slice a5 n5 c5, .slice a6 n6 c6] 27 _ rfl).lower HN.out (Nat.lt_succ_self _)
  have HW : Hid (Nx w wr) := Below.trans (box1 _ _) (Below.mono HN.out (Nat.le_succ _))
  have HZW : Hid (w.heap.size + 1 ≤ wr.heap.size) := by unfold Hid; have := HN.out.size; rw [size_box1] at this; exact this
  have k0 := BA.cell (i := 0) rfl
  have k1 := BA.cell (i := 1) rfl
  have k5 := BA.cell (i := 5) rfl
  obtain ⟨av, cv, hvs⟩ := HO.out.slice
  subst hvs
  by_cases hlt : k < n0
  · obtain ⟨b, off, rfl, _, hb, hc⟩ := hk0 (by omega)
    obtain ⟨b', off', rfl, _, hb', hc'⟩ := hk1 (by omega)
    have hlt' : (k : Int) < n0 := by omega
    have x0 := cell_next HW.out hb (hc k hlt)
    have y0 := cell_next HW.out hb' (hc' k hlt)
    have HRD : Hid (rOk G k = (inZ (iat G.eo k) n5 && inZ (iat G.so k) 2000)) := by unfold Hid rOk; rw [Z5.out]
    clear hc hc' hk0 hk1 hk2 hk3 hk4 hk5 hk6 BA
    by_cases g1 : inZ (iat G.eo k) n5 = true
    · by_cases g2 : inZ (iat G.so k) 2000 = true
      · have HF : Hid (rOk G k = true) := by unfold Hid; rw [HRD.out, g1, g2]; rfl
        have HVC : Hid (vcells (iat G.eo) (iat G.so) (k + 1) = vcells (iat G.eo) (iat G.so) k ++ [.int .i64 (iat G.eo k), .int .i64 (iat G.so k)]) := rfl
        generalize iat G.eo k = xe at *
        generalize iat G.so k = xs at *
        go_wp2_with fail
        refine (withinZ_any _ (n5 : Int) _ (by omega) (by omega)).mono ?_
        rintro e wr ⟨rfl, rfl⟩
        go_wp2_with fail
        refine (withinZ_any _ 2000 _ (by omega) (by omega)).mono ?_
        rintro e wr ⟨rfl, rfl⟩
        go_wp2_with (at_builtin; refine wpList_append_own_at _ rfl _ _ 48 rfl (w.heap.size + 1) 50 ii (.agg #[.int .i64 0, .int .i64 0]) 2 16 Try.underlying48 hi hz0 hz1 hz2 rfl (by decide) _ _ _ rfl (World.ownsRow.alloc HO.out _) ⟨wr.heap.size, 0, none⟩ 1 1 [.int .i64 xe, .int .i64 xs] rfl rfl ?c1 ?c2 ?c3 ?c4 ?c5 ?_)
        case c1 => exact fun j u hj => new_cells wr _ _ _ rfl j u hj
        case c2 => intro u hu; simp at hu; rcases hu with rfl | rfl <;> rfl
        case c3 => unfold maxLen; omega
        case c4 => omega
        case c5 => have := HZW.out; simp; omega
        intro v7 w7 hown' hgrow _ _
        have HV7 : Hid (OwnV (w.heap.size + 1) w7 v7 (iat G.eo) (iat G.so) (k + 1)) := by unfold Hid OwnV; rw [HVC.out]; exact hown'
        have HG7 : Hid (Below (w.heap.size + 1) _ w7) := Below.grown (Below.alloc HN.out HZW.out _) hgrow (by have := HZW.out; simp; omega) (fun g hg => (HO.out.lt g hg).1)
        clear hown' hgrow
        go_wp2
        go_roundw
        case rel => exact ⟨k + 1, by omega, by go_num, allTo_succ HA.out HF.out, HV7, HG7⟩
        case measure => simp [intOf]; omega
      · have g2' : inZ (iat G.so k) 2000 = false := by simpa using g2
        have HF : Hid (rOk G k = false) := by unfold Hid; rw [HRD.out, g2']; simp
        clear g2
        go_wp2_with fail
        refine (withinZ_any _ (n5 : Int) _ (by omega) (by omega)).mono ?_
        rintro e w' ⟨rfl, rfl⟩
        go_wp2_with fail
        refine (withinZ_any _ 2000 _ (by omega) (by omega)).mono ?_
        rintro e w' ⟨rfl, rfl⟩
        go_wp2
        go_ret
        exact ⟨ret_bool (by rw [HG1.out, allN_no hlt HF.out]; rfl), HW.out⟩
    · have g1' : inZ (iat G.eo k) n5 = false := by simpa using g1
      have HF : Hid (rOk G k = false) := by unfold Hid; rw [HRD.out, g1']; simp
      clear g1
      go_wp2_with fail
      refine (withinZ_any _ (n5 : Int) _ (by omega) (by omega)).mono ?_
      rintro e w' ⟨rfl, rfl⟩
      go_wp2
      go_ret
      exact ⟨ret_bool (by rw [HG1.out, allN_no hlt HF.out]; rfl), HW.out⟩
  · have ek : n0 = k := by omega
    subst ek
    go_wp2_with fail
    refine (ascVs_any (w.heap.size + 1) _ _ (iat G.eo) (iat G.so) _ (by exact HO.out.held)).mono ?_
    rintro e w' ⟨rfl, hx⟩
    go_wp2
    go_ret
    exact ⟨ret_bool (by rw [HG1.out, allN_yes (Nat.le_refl _) HA.out]; rfl), HW.out.trans hx⟩
end Go.Proofs.Ytdjmlpgdaanipaa
