import Derived.Test.YtedhchmigeooiaaDoorEnA
import Derived.Test.YtedhchmigeooiaaDoorToA
import Derived.Deep.RegionHeld3
namespace Go.Proofs.YtedhchmigeooiaaDoor
open Go.RowKit
set_option linter.unusedVariables false

/-- a row of bytes, each told -/
def HBy (B : Nat) (w : World) (v : Value) (n : Nat) (f : Nat → Int) : Prop := HSlice B w v n fun b off i => w.cell? ⟨b, off + i, none⟩ = some (.int .u8 (f i))
def bat (bs : List UInt8) (i : Nat) : Int := ((bs.getD i 0).toNat : Int)
theorem HBy.keep {B : Nat} {w w' : World} {v : Value} {n : Nat} {f : Nat → Int} (h : HBy B w v n f) (k : Keeps B w w') : HBy B w' v n f :=
  HSlice.mono h (Nat.le_refl _) k.1 fun b off hb hs i hi hc => (k.2 b hb hs _).trans hc
theorem HBy.next {B : Nat} {w w' : World} {v : Value} {n : Nat} {f : Nat → Int} (h : HBy B w v n f) (k : Nx w w') : HBy B w' v n f := h.keep (k.keeps B)
theorem Own.hby {B : Nat} {w : World} {v : Value} {bs : List UInt8} (h : Own B w v bs) : HBy B w v bs.length (bat bs) := by
  obtain ⟨h1, h2⟩ := h
  rcases h2 with ⟨rfl, h2⟩ | ⟨g, cap, cur, rfl, hg, hh, hc, hm, hs, ht⟩
  · rw [h2]
    exact ⟨_, _, rfl, by simp [maxLen], fun h => by omega⟩
  · refine ⟨_, _, rfl, by omega, fun h0 => ⟨g, 0, rfl, hg, (Array.getElem?_eq_some_iff.1 hh).1, fun i hi => ?_⟩⟩
    have e : cur[i]? = some (.int .u8 (bat bs i)) := by
      have : (cur.toList.take (bs.length * 1))[i]? = (Lib.byteCells bs)[i]? := by rw [ht]
      rw [List.getElem?_take_of_lt (by omega)] at this
      rw [← Array.getElem?_toList, this]
      simp [Lib.byteCells, hi, bat]
    unfold World.cell?
    simp only [hh]
    simpa using e

set_option maxHeartbeats 400000 in
theorem eqBytes_same (B B' : Nat) (v v' : Value) (n : Nat) (f : Nat → Int) (w : World) (h0 : HBy B w v n f) (h1 : HBy B' w v' n f) :
    Calls Tryd.prog 8 #[v, v'] w fun e w' => e = .returned (.bool true) ∧ Nx w w' := by
  obtain ⟨a, cap, rfl, hn, hk⟩ := h0
  obtain ⟨a', cap', rfl, hn', hk'⟩ := h1
  unfold maxLen at hn hn'
  have hd : ((n : Int) != (n : Int)) = false := by simp
  go_enter Tryd.func8, Tryd.ntmps8
  go_wp2
  go_loopw [5] (fun i wr => ∃ k : Nat, k ≤ n ∧ i = .int .i64 k ∧ Hid (Nx w wr)) (fun i _ => n - (intOf i).toNat)
  case atStart => exact ⟨0, Nat.zero_le _, rfl, Nx.refl _⟩
  case round =>
    obtain ⟨k, hkn, rfl, HN⟩ := hrel
    by_cases hlt : k < n
    · obtain ⟨b, off, rfl, hB, hb, hc⟩ := hk (by omega)
      obtain ⟨b', off', rfl, hB', hb', hc'⟩ := hk' (by omega)
      have c0 := cell_next HN.out hb (hc k hlt)
      have c1 := cell_next HN.out hb' (hc' k hlt)
      have hlt' : (k : Int) < n := by omega
      have he : (f k != f k) = false := by simp
      clear hc hk hc' hk'
      generalize f k = fk at *
      go_wp2
      go_region_with (fail)
      all_goals go_wp2
      all_goals
        go_roundw
        case rel => exact ⟨k + 1, by omega, by go_num, HN.out.drew⟩
        case measure => simp [intOf]; omega
    · go_wp2
      go_ret
      exact ⟨rfl, HN.out⟩

/-- an open row whose first j bytes are marked -/
def MRow (w : World) (g n j : Nat) (k : Int) : Prop := ∃ cur : Array Value, w.heap[g]? = some (.cells cur 5 (0, 0)) ∧ n ≤ cur.size ∧ ∀ i, i < j → cur[i]? = some (.int .u8 (IntKind.u8.wrap (k + i)))
theorem MRow.at {w : World} {g n j : Nat} {k : Int} (h : MRow w g n j k) {i : Nat} (hi : i < n) : (∃ u, w.cell? ⟨g, i, none⟩ = some u) ∧ w.frozen? ⟨g, i, none⟩ = false := by
  obtain ⟨cur, h1, h2, h3⟩ := h
  exact ⟨⟨cur[i], by simp [World.cell?, h1, show i < cur.size by omega]⟩, by simp [World.frozen?, h1]⟩
theorem MRow.set {w : World} {g n j : Nat} {k : Int} (h : MRow w g n j k) (hj : j < n) : MRow (w.setCell ⟨g, j, none⟩ (.int .u8 (IntKind.u8.wrap (k + j)))) g n (j + 1) k := by
  obtain ⟨cur, h1, h2, h3⟩ := h
  refine ⟨cur.setIfInBounds j (.int .u8 (IntKind.u8.wrap (k + j))), by simp [World.setCell, Array.getElem?_modify, h1], by simpa using h2, fun i hi => ?_⟩
  by_cases e : j = i
  · subst e
    exact set_eq _ (by omega)
  · rw [set_ne _ e]
    exact h3 i (by omega)
def MOpen (B : Nat) (w : World) (v : Value) (n j : Nat) (k : Int) : Prop := ∃ a cap, v = .slice a n cap ∧ n ≤ maxLen ∧ (0 < n → ∃ g, a = some ⟨g, 0, none⟩ ∧ B ≤ g ∧ MRow w g n j k)
theorem Own.mopen {B : Nat} {w : World} {v : Value} {bs : List UInt8} (h : Own B w v bs) (k : Int) : MOpen B w v bs.length 0 k := by
  obtain ⟨h1, h2⟩ := h
  rcases h2 with ⟨rfl, h2⟩ | ⟨g, cap, cur, rfl, hg, hh, hc, hm, hs, ht⟩
  · rw [h2]
    exact ⟨_, _, rfl, by simp [maxLen], fun h => by omega⟩
  · exact ⟨_, _, rfl, by omega, fun h0 => ⟨g, rfl, hg, cur, hh, by omega, fun i hi => absurd hi (Nat.not_lt_zero _)⟩⟩
theorem MOpen.hby {B : Nat} {w : World} {v : Value} {n : Nat} {k : Int} (h : MOpen B w v n n k) : HBy B w v n (fun i => IntKind.u8.wrap (k + i)) := by
  obtain ⟨a, cap, rfl, hm, hk⟩ := h
  refine ⟨_, _, rfl, hm, fun h0 => ?_⟩
  obtain ⟨g, rfl, hg, cur, h1, h2, h3⟩ := hk h0
  refine ⟨g, 0, rfl, hg, (Array.getElem?_eq_some_iff.1 h1).1, fun i hi => ?_⟩
  have := h3 i hi
  simp [World.cell?, h1, this]

set_option maxHeartbeats 400000 in
theorem markBytes_any (B : Nat) (v : Value) (n : Nat) (w : World) (h0 : MOpen B w v n 0 1) (hs : n ≤ 1048576) :
    Calls Tryd.prog 11 #[v, .int .i64 1] w fun e w' => e = .returned (.int .i64 (1 + n)) ∧ HBy B w' v n (fun i => IntKind.u8.wrap (1 + i)) ∧ Below B w w' := by
  obtain ⟨a, cap, rfl, hn, hk⟩ := h0
  go_enter Tryd.func11, Tryd.ntmps11
  go_wp2
  go_loopw [1, 5] (fun c i wr => ∃ j : Nat, j ≤ n ∧ i = .int .i64 j ∧ c = .int .i64 (1 + j) ∧ Hid (MOpen B wr (.slice a n cap) n j 1) ∧ Hid (Below B w wr)) (fun _ i _ => n - (intOf i).toNat)
  case atStart => exact ⟨0, Nat.zero_le _, rfl, by simp, ⟨a, cap, rfl, hn, hk⟩, Below.refl _ _⟩
  case round =>
    obtain ⟨j, hjn, rfl, rfl, HM, HB⟩ := hrel
    clear hk
    by_cases hlt : j < n
    · obtain ⟨a', cap', e0, _, hk⟩ := HM.out
      simp only [Value.slice.injEq, true_and] at e0
      obtain ⟨rfl, rfl⟩ := e0
      obtain ⟨g, rfl, hg, hr⟩ := hk (by omega)
      obtain ⟨⟨u, c0⟩, f0⟩ := hr.at hlt
      have HM' : Hid (MOpen B (wr.setCell ⟨g, j, none⟩ (.int .u8 (IntKind.u8.wrap (1 + j)))) (.slice (some ⟨g, 0, none⟩) n cap) n (j + 1) 1) := ⟨_, _, rfl, hn, fun _ => ⟨g, rfl, hg, hr.set hlt⟩⟩
      have HB' : Hid (Below B w (wr.setCell ⟨g, j, none⟩ (.int .u8 (IntKind.u8.wrap (1 + j))))) := Below.setCell HB.out hg _
      have hlt' : (j : Int) < n := by omega
      clear hk hr HM HB
      go_wp2
      go_roundw
      case rel => exact ⟨j + 1, by omega, by go_num, by go_num, HM', HB'⟩
      case measure => simp [intOf]; omega
    · go_wp2
      go_ret
      have e : j = n := by omega
      subst e
      exact ⟨rfl, HM.out.hby, HB.out⟩

set_option maxHeartbeats 400000 in
theorem heldBytes_any (B : Nat) (v : Value) (n : Nat) (w : World) (h0 : HBy B w v n (fun i => IntKind.u8.wrap (1 + i))) (hs : n ≤ 1048576) :
    Calls Tryd.prog 12 #[v, .int .i64 1] w fun e w' => e = .returned (.int .i64 (1 + n)) ∧ Nx w w' := by
  obtain ⟨a, cap, rfl, hn, hk⟩ := h0
  go_enter Tryd.func12, Tryd.ntmps12
  go_wp2
  go_loopw [1, 5] (fun c i wr => ∃ j : Nat, j ≤ n ∧ i = .int .i64 j ∧ c = .int .i64 (1 + j) ∧ Hid (Nx w wr)) (fun _ i _ => n - (intOf i).toNat)
  case atStart => exact ⟨0, Nat.zero_le _, rfl, by simp, Nx.refl _⟩
  case round =>
    obtain ⟨j, hjn, rfl, rfl, HN⟩ := hrel
    by_cases hlt : j < n
    · obtain ⟨b, off, rfl, hB, hb, hc⟩ := hk (by omega)
      have c0 := cell_next HN.out hb (hc j hlt)
      have hlt' : (j : Int) < n := by omega
      have hne : (IntKind.u8.wrap (1 + (j : Int)) != IntKind.u8.wrap (1 + (j : Int))) = false := by simp
      clear hc hk
      go_wp2
      go_roundw
      case rel => exact ⟨j + 1, by omega, by go_num, by go_num, HN⟩
      case measure => simp [intOf]; omega
    · go_wp2
      go_ret
      have e : j = n := by omega
      subst e
      exact ⟨rfl, HN.out⟩
end Go.Proofs.YtedhchmigeooiaaDoor
