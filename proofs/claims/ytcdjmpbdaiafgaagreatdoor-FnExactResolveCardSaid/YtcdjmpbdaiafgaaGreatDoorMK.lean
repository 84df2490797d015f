import Derived.Test.YtcdjmpbdaiafgaaGreatDoorMI
namespace Go.Proofs.YtcdjmpbdaiafgaaGreatDoor
open Go.RowKit Go.Sort
set_option linter.unusedVariables false
set_option maxRecDepth 100000

-- a resolution in memory; the law's comparison of two
def HRu (w : World) (v : Value) (xs : List Ru) : Prop :=
  HSlice 0 w v xs.length fun b off i => ∃ u, w.cell? ⟨b, off + i * 3, none⟩ = some (.int .i64 (ruat xs i).rel) ∧ w.cell? ⟨b, off + i * 3 + 1, none⟩ = some (.bool (ruat xs i).only) ∧ w.cell? ⟨b, off + i * 3 + 2, none⟩ = some u ∧ HInts 0 w u (ruat xs i).seq
def HDp (w : World) (v : Value) (xs : List Dp) : Prop :=
  HSlice 0 w v xs.length fun b off i => w.cell? ⟨b, off + i * 2, none⟩ = some (.int .i64 (dpat xs i).rel) ∧ w.cell? ⟨b, off + i * 2 + 1, none⟩ = some (.int .i64 (dpat xs i).reason)
theorem HRu.next {w w' : World} {v : Value} {xs : List Ru} (h : HRu w v xs) (k : Nx w w') : HRu w' v xs :=
  HSlice.mono h (Nat.le_refl _) k.size fun b off hb hs i hi hc => by
    obtain ⟨u, h0, h1, h2, h3⟩ := hc
    exact ⟨u, cellq k h0, cellq k h1, cellq k h2, h3.next k⟩
theorem HDp.next {w w' : World} {v : Value} {xs : List Dp} (h : HDp w v xs) (k : Nx w w') : HDp w' v xs :=
  HSlice.mono h (Nat.le_refl _) k.size fun b off hb hs i hi hc => ⟨cellq k hc.1, cellq k hc.2⟩
theorem OwnR.hru {C D : Nat} {w : World} {v : Value} {xs : List Ru} (h : OwnR C D w v xs) : HRu w v xs := by
  obtain ⟨vs, h0, h1, h2⟩ := h
  obtain ⟨h3, h4⟩ := h1
  rcases h4 with ⟨rfl, h5⟩ | ⟨g, cap, cur, rfl, hg, hh, hc, hm, hs, ht⟩
  · exact ⟨none, 0, by rw [h5], by rw [h5]; simp, fun hp => by rw [h5] at hp; cases hp⟩
  · refine ⟨_, _, rfl, by omega, fun _ => ⟨g, 0, rfl, Nat.zero_le _, (Array.getElem?_eq_some_iff.1 hh).1, fun i hi => ?_⟩⟩
    have hz : (xs.zip vs)[i]? = some (ruat xs i, vat vs i) := by
      rw [List.getElem?_zip_eq_some]
      exact ⟨by rw [ruat_eq hi]; exact List.getElem?_eq_getElem hi, by simp [vat, List.getD, List.getElem?_eq_getElem (show i < vs.length by omega)]⟩
    have key : ∀ q, q < 3 → w.cell? ⟨g, 0 + i * 3 + q, none⟩ = (rcell (ruat xs i, vat vs i))[q]? := fun q hq => by
      have e1 : (cur.toList.take (xs.length * 3))[i * 3 + q]? = (rcells xs vs)[i * 3 + q]? := by rw [ht]
      rw [List.getElem?_take_of_lt (by omega), Array.getElem?_toList] at e1
      have e2 := flat3 (xs.zip vs) rcell (fun _ => rfl) i q hq _ hz
      unfold rcells at e1
      rw [e2] at e1
      rw [Nat.zero_add]
      simp only [World.cell?, hh, e1]
      rfl
    exact ⟨vat vs i, key 0 (by omega), key 1 (by omega), key 2 (by omega), (OwnI.base (h2 i hi) (Nat.zero_le _)).held⟩
theorem OwnX.hru {C : Nat} {w : World} {v : Value} {xs : List Ru} (h : OwnX C w v xs) : HRu w v xs := by
  obtain ⟨vs, h0, h1, h2, _⟩ := h
  exact OwnR.hru (C := C) (D := C) ⟨vs, h0, h1, h2⟩
theorem flat2 {α : Type} (l : List α) (f : α → List Value) (hf : ∀ x, (f x).length = 2) (i q : Nat) (hq : q < 2) (x : α) (hx : l[i]? = some x) : (l.flatMap f)[i * 2 + q]? = (f x)[q]? := by
  induction l generalizing i with
  | nil => simp at hx
  | cons a l ih =>
    cases i with
    | zero =>
      have : a = x := by simpa using hx
      subst this
      rw [List.flatMap_cons, Nat.zero_mul, Nat.zero_add, List.getElem?_append_left (by rw [hf]; exact hq)]
    | succ i =>
      rw [List.flatMap_cons, List.getElem?_append_right (by rw [hf]; omega), hf, show (i + 1) * 2 + q - 2 = i * 2 + q by omega]
      exact ih i (by simpa using hx)
theorem OwnD.hdp {C : Nat} {w : World} {v : Value} {xs : List Dp} (h : OwnD C w v xs) : HDp w v xs := by
  obtain ⟨h3, h4⟩ := h
  rcases h4 with ⟨rfl, h5⟩ | ⟨g, cap, cur, rfl, hg, hh, hc, hm, hs, ht⟩
  · exact ⟨none, 0, by rw [h5], by rw [h5]; simp, fun hp => by rw [h5] at hp; cases hp⟩
  · refine ⟨_, _, rfl, by omega, fun _ => ⟨g, 0, rfl, Nat.zero_le _, (Array.getElem?_eq_some_iff.1 hh).1, fun i hi => ?_⟩⟩
    have key : ∀ q, q < 2 → w.cell? ⟨g, 0 + i * 2 + q, none⟩ = ([Value.int .i64 (dpat xs i).rel, .int .i64 (dpat xs i).reason])[q]? := fun q hq => by
      have e1 : (cur.toList.take (xs.length * 2))[i * 2 + q]? = (dcells xs)[i * 2 + q]? := by rw [ht]
      rw [List.getElem?_take_of_lt (by omega), Array.getElem?_toList] at e1
      have e2 := flat2 xs (fun x => [Value.int .i64 x.rel, .int .i64 x.reason]) (fun _ => rfl) i q hq (dpat xs i) (by rw [dpat_eq hi]; exact List.getElem?_eq_getElem hi)
      unfold dcells at e1
      rw [e2] at e1
      rw [Nat.zero_add]
      simp only [World.cell?, hh, e1]
      rfl
    exact ⟨key 0 (by omega), key 1 (by omega)⟩

set_option maxHeartbeats 400000 in
theorem eqRule_same (x : Ru) (p p' : Value) (w : World) (h0 : HInts 0 w p x.seq) (h1 : HInts 0 w p' x.seq) :
    Calls Tryz.prog 73 #[.agg #[.int .i64 x.rel, .bool x.only, p], .agg #[.int .i64 x.rel, .bool x.only, p']] w fun e w' => e = .returned (.bool true) ∧ Nx w w' := by
  have hd : ((x.rel : Int) != x.rel) = false := by simp
  have he : (x.only != x.only) = false := by simp
  go_enter Tryz.func73, Tryz.ntmps73
  go_wp2_with (go_at_call 18; refine (eqInts_same 0 0 _ _ x.seq _ (h0.next (box2 _ _ _)) (h1.next (box2 _ _ _))).mono ?_; rintro e w1 ⟨rfl, hx⟩)
  go_ret
  exact ⟨rfl, (box2 _ _ _).trans hx⟩
set_option maxHeartbeats 400000 in
theorem eqDrop_same (x : Dp) (w : World) :
    Calls Tryz.prog 74 #[.agg #[.int .i64 x.rel, .int .i64 x.reason], .agg #[.int .i64 x.rel, .int .i64 x.reason]] w fun e w' => e = .returned (.bool true) ∧ Nx w w' := by
  have hd : ((x.rel : Int) != x.rel) = false := by simp
  have he : (x.reason != x.reason) = false := by simp
  go_enter Tryz.func74, Tryz.ntmps74
  go_wp2
  go_ret
  exact ⟨rfl, box2 _ _ _⟩
set_option maxHeartbeats 1000000 in
theorem eqRules_same (v v' : Value) (zs : List Ru) (w : World) (h0 : HRu w v zs) (h1 : HRu w v' zs) :
    Calls Tryz.prog 32 #[v, v'] w fun e w' => e = .returned (.bool true) ∧ Nx w w' := by
  obtain ⟨a, cap, rfl, hn, hk⟩ := h0
  obtain ⟨a', cap', rfl, hn', hk'⟩ := h1
  unfold maxLen at hn hn'
  generalize zs.length = n at *
  have hd : ((n : Int) != (n : Int)) = false := by simp
  go_enter Tryz.func32, Tryz.ntmps32
  go_wp2
  go_loopw [5] (fun i wr => ∃ k : Nat, k ≤ n ∧ i = .int .i64 k ∧ Hid (Nx w wr)) (fun i _ => n - (intOf i).toNat)
  case atStart => exact ⟨0, Nat.zero_le _, rfl, Nx.refl _⟩
  case round =>
    obtain ⟨k, hkn, rfl, HN⟩ := hrel
    by_cases hlt : k < n
    · obtain ⟨b, off, rfl, hB, hb, hc⟩ := hk (by omega)
      obtain ⟨b', off', rfl, hB', hb', hc'⟩ := hk' (by omega)
      obtain ⟨p1, a0, a1, a2, n1⟩ := hc k hlt
      obtain ⟨q1, b0, b1, b2, n2⟩ := hc' k hlt
      have a0 := cell_next HN.out hb a0
      have a1 := cell_next HN.out hb a1
      have a2 := cell_next HN.out hb a2
      have b0 := cell_next HN.out hb' b0
      have b1 := cell_next HN.out hb' b1
      have b2 := cell_next HN.out hb' b2
      have hlt' : (k : Int) < n := by omega
      clear hc hk hc' hk'
      go_wp2
      go_region_with (go_at_call 73; refine (eqRule_same (ruat zs k) _ _ _ (by exact n1.next HN.out.drew) (by exact n2.next HN.out.drew)).mono ?_; rintro e w' ⟨rfl, hx⟩)
      all_goals go_wp2
      all_goals
        go_roundw
        case rel => exact ⟨k + 1, by omega, by go_num, HN.out.drew.trans hx⟩
        case measure => simp [intOf]; omega
    · go_wp2
      go_ret
      exact ⟨rfl, HN.out⟩
set_option maxHeartbeats 1000000 in
theorem eqDrops_same (v v' : Value) (zs : List Dp) (w : World) (h0 : HDp w v zs) (h1 : HDp w v' zs) :
    Calls Tryz.prog 33 #[v, v'] w fun e w' => e = .returned (.bool true) ∧ Nx w w' := by
  obtain ⟨a, cap, rfl, hn, hk⟩ := h0
  obtain ⟨a', cap', rfl, hn', hk'⟩ := h1
  unfold maxLen at hn hn'
  generalize zs.length = n at *
  have hd : ((n : Int) != (n : Int)) = false := by simp
  go_enter Tryz.func33, Tryz.ntmps33
  go_wp2
  go_loopw [5] (fun i wr => ∃ k : Nat, k ≤ n ∧ i = .int .i64 k ∧ Hid (Nx w wr)) (fun i _ => n - (intOf i).toNat)
  case atStart => exact ⟨0, Nat.zero_le _, rfl, Nx.refl _⟩
  case round =>
    obtain ⟨k, hkn, rfl, HN⟩ := hrel
    by_cases hlt : k < n
    · obtain ⟨b, off, rfl, hB, hb, hc⟩ := hk (by omega)
      obtain ⟨b', off', rfl, hB', hb', hc'⟩ := hk' (by omega)
      obtain ⟨a0, a1⟩ := hc k hlt
      obtain ⟨b0, b1⟩ := hc' k hlt
      have a0 := cell_next HN.out hb a0
      have a1 := cell_next HN.out hb a1
      have b0 := cell_next HN.out hb' b0
      have b1 := cell_next HN.out hb' b1
      have hlt' : (k : Int) < n := by omega
      clear hc hk hc' hk'
      go_wp2
      go_region_with (go_at_call 74; refine (eqDrop_same (dpat zs k) _).mono ?_; rintro e w' ⟨rfl, hx⟩)
      all_goals go_wp2
      all_goals
        go_roundw
        case rel => exact ⟨k + 1, by omega, by go_num, HN.out.drew.trans hx⟩
        case measure => simp [intOf]; omega
    · go_wp2
      go_ret
      exact ⟨rfl, HN.out⟩
set_option maxHeartbeats 1000000 in
theorem eqRes_same (v0 v1 u0 u1 : Value) (S : Rs) (w : World) (h0 : HRu w v0 S.rules) (h1 : HDp w v1 S.drops) (k0 : HRu w u0 S.rules) (k1 : HDp w u1 S.drops) :
    Calls Tryz.prog 9 #[.agg #[v0, v1], .agg #[u0, u1]] w fun e w' => e = .returned (.bool true) ∧ Nx w w' := by
  go_enter Tryz.func9, Tryz.ntmps9
  go_wp2_with fail
  refine (eqRules_same _ _ S.rules _ (h0.next (box2 _ _ _)) (k0.next (box2 _ _ _))).mono ?_
  rintro e w1 ⟨rfl, hx⟩
  have HX : Hid (Nx w w1) := (box2 _ _ _).trans hx
  have BA := ((Blk.new w #[v0, v1] 32 _ rfl).alloc (.cells #[u0, u1] 32)).next hx
  have BB := (Blk.new (w.alloc (.cells #[v0, v1] 32)) #[u0, u1] 32 (w.heap.size + 1) (by simp)).next hx
  have x1 := BA.cell (i := 1) rfl
  have y1 := BB.cell (i := 1) rfl
  clear hx
  go_wp2_with fail
  refine (eqDrops_same _ _ S.drops _ (h1.next HX.out) (k1.next HX.out)).mono ?_
  rintro e w2 ⟨rfl, hx⟩
  go_wp2
  go_ret
  exact ⟨rfl, HX.out.trans hx⟩
end Go.Proofs.YtcdjmpbdaiafgaaGreatDoor

namespace Go.Proofs.YtcdjmpbdaiafgaaGreatDoor
open Go.RowKit Go.Sort
set_option linter.unusedVariables false
set_option maxRecDepth 100000

-- the law's marks in a resolution
/-- n rules in block g: their numbers, flags and the values that hold their lists -/
def RR (w : World) (g n : Nat) (vs : Nat → Value) (V : Nat → Int × Bool) : Prop := ∃ c : Array Value, w.heap[g]? = some (.cells c 100 (0, 0)) ∧ n * 3 ≤ c.size ∧ ∀ i, i < n → c[i * 3]? = some (.int .i64 (V i).1) ∧ c[i * 3 + 1]? = some (.bool (V i).2) ∧ c[i * 3 + 2]? = some (vs i)
theorem RR.lt {w : World} {g n : Nat} {vs : Nat → Value} {V : Nat → Int × Bool} (h : RR w g n vs V) : g < w.heap.size := by
  obtain ⟨c, hh, _⟩ := h
  exact (Array.getElem?_eq_some_iff.1 hh).1
theorem RR.cells {w : World} {g n : Nat} {vs : Nat → Value} {V : Nat → Int × Bool} (h : RR w g n vs V) {i : Nat} (hi : i < n) : w.cell? ⟨g, i * 3, none⟩ = some (.int .i64 (V i).1) ∧ w.cell? ⟨g, i * 3 + 1, none⟩ = some (.bool (V i).2) ∧ w.cell? ⟨g, i * 3 + 2, none⟩ = some (vs i) := by
  obtain ⟨c, hh, hs, hc⟩ := h
  obtain ⟨h0, h1, h2⟩ := hc i hi
  refine ⟨?_, ?_, ?_⟩ <;> simp only [World.cell?, hh] <;> assumption
theorem RR.frozen {w : World} {g n : Nat} {vs : Nat → Value} {V : Nat → Int × Bool} (h : RR w g n vs V) (o : Nat) : w.frozen? ⟨g, o, none⟩ = false := by
  obtain ⟨c, hh, _⟩ := h
  simp [World.frozen?, hh]
theorem RR.set0 {w : World} {g n : Nat} {vs : Nat → Value} {V : Nat → Int × Bool} (h : RR w g n vs V) {i : Nat} (hi : i < n) (z : Int) : RR (w.setCell ⟨g, i * 3, none⟩ (.int .i64 z)) g n vs (fun j => if j = i then (z, (V j).2) else V j) := by
  obtain ⟨c, hh, hs, hc⟩ := h
  refine ⟨c.setIfInBounds (i * 3) (.int .i64 z), by simp [World.setCell, Array.getElem?_modify, hh], by simpa using hs, fun j hj => ?_⟩
  obtain ⟨h0, h1, h2⟩ := hc j hj
  by_cases e : j = i
  · subst e
    dsimp only
    rw [if_pos rfl]
    exact ⟨by rw [set_eq _ (by omega)], by rw [set_ne _ (by omega)]; exact h1, by rw [set_ne _ (by omega)]; exact h2⟩
  · dsimp only
    rw [if_neg e]
    exact ⟨by rw [set_ne _ (by omega)]; exact h0, by rw [set_ne _ (by omega)]; exact h1, by rw [set_ne _ (by omega)]; exact h2⟩
theorem RR.set1 {w : World} {g n : Nat} {vs : Nat → Value} {V : Nat → Int × Bool} (h : RR w g n vs V) {i : Nat} (hi : i < n) (z : Bool) : RR (w.setCell ⟨g, i * 3 + 1, none⟩ (.bool z)) g n vs (fun j => if j = i then ((V j).1, z) else V j) := by
  obtain ⟨c, hh, hs, hc⟩ := h
  refine ⟨c.setIfInBounds (i * 3 + 1) (.bool z), by simp [World.setCell, Array.getElem?_modify, hh], by simpa using hs, fun j hj => ?_⟩
  obtain ⟨h0, h1, h2⟩ := hc j hj
  by_cases e : j = i
  · subst e
    dsimp only
    rw [if_pos rfl]
    exact ⟨by rw [set_ne _ (by omega)]; exact h0, by rw [set_eq _ (by omega)], by rw [set_ne _ (by omega)]; exact h2⟩
  · dsimp only
    rw [if_neg e]
    exact ⟨by rw [set_ne _ (by omega)]; exact h0, by rw [set_ne _ (by omega)]; exact h1, by rw [set_ne _ (by omega)]; exact h2⟩
theorem RR.keep {w w' : World} {g n : Nat} {vs : Nat → Value} {V : Nat → Int × Bool} (h : RR w g n vs V) (k : w'.heap[g]? = w.heap[g]?) : RR w' g n vs V := by
  obtain ⟨c, hh, hs, hc⟩ := h
  exact ⟨c, k.trans hh, hs, hc⟩
theorem RR.congr {w : World} {g n : Nat} {vs : Nat → Value} {V U : Nat → Int × Bool} (h : RR w g n vs V) (e : ∀ i, i < n → V i = U i) : RR w g n vs U := by
  obtain ⟨c, hh, hs, hc⟩ := h
  exact ⟨c, hh, hs, fun i hi => by rw [← e i hi]; exact hc i hi⟩
/-- the mark that rule i begins with -/
def kTo (k : Int) (L : Nat → Nat) : Nat → Int
  | 0 => k
  | i + 1 => kTo k L i + 2 + L i
theorem kTo_le {k : Int} {L : Nat → Nat} {n : Nat} (hL : ∀ i, i < n → L i ≤ 1000000) : ∀ i, i ≤ n → k ≤ kTo k L i ∧ kTo k L i ≤ k + 1000002 * i
  | 0, _ => by simp [kTo]
  | i + 1, h => by
    have h1 := kTo_le (k := k) hL i (by omega)
    have h2 := hL i (by omega)
    unfold kTo
    omega
def mkR (k : Int) (L : Nat → Nat) (i : Nat) : Int × Bool := (kTo k L i, (kTo k L i + 1) % 3 == 0)
def SRu (w : World) (v : Value) (n : Nat) (vs : Nat → Value) (V : Nat → Int × Bool) : Prop := ∃ a c, v = .slice a n c ∧ (0 < n → ∃ g, a = some ⟨g, 0, none⟩ ∧ RR w g n vs V)
/-- no two of these lie in one block, nor with the rules -/
structure Sep (v : Value) (n : Nat) (vs : Nat → Value) : Prop where
  row : ∀ i g, i < n → (vs i).ownBlock = some g → v.ownBlock ≠ some g
  two : ∀ i j g, i < n → j < n → i ≠ j → (vs i).ownBlock = some g → (vs j).ownBlock ≠ some g
def inS (v : Value) (n : Nat) (vs : Nat → Value) (b : Nat) : Prop := some b = v.ownBlock ∨ ∃ i, i < n ∧ some b = (vs i).ownBlock

theorem SI.keep2 {w w' : World} {v : Value} {n : Nat} {F : Nat → Int} (h : SI w v n F) (k : ∀ g, g < w.heap.size → v.ownBlock = some g → w'.heap[g]? = w.heap[g]?) : SI w' v n F := by
  obtain ⟨a, c, rfl, hk⟩ := h
  refine ⟨a, c, rfl, fun hp => ?_⟩
  obtain ⟨g, rfl, cc, hh, r⟩ := hk hp
  exact ⟨g, rfl, cc, (k g (Array.getElem?_eq_some_iff.1 hh).1 rfl).trans hh, r⟩
theorem Chg.mono {S T : Nat → Prop} {w w' : World} (h : Chg S w w') (hST : ∀ b, S b → T b) : Chg T w w' := ⟨h.os, h.tape, h.output, h.size, fun b hb hn => h.block b hb (fun x => hn (hST b x))⟩
set_option maxHeartbeats 4000000 in
theorem markRules_any (v : Value) (n : Nat) (vs : Nat → Value) (L : Nat → Nat) (V : Nat → Int × Bool) (k : Int) (w : World) (h0 : SRu w v n vs V) (hS : Sep v n vs) (hv : ∀ i, i < n → ∃ F, SI w (vs i) (L i) F) (hn : n ≤ 1000) (hL : ∀ i, i < n → L i ≤ 1000000) (hk0 : 0 ≤ k) (hk1 : k ≤ 1000000) :
    Calls Tryz.prog 41 #[v, .int .i64 k] w fun e w' => e = .returned (.int .i64 (kTo k L n)) ∧ SRu w' v n vs (mkR k L) ∧ (∀ i, i < n → SI w' (vs i) (L i) (fun j => kTo k L i + 2 + j)) ∧ Chg (inS v n vs) w w' := by
  have HS : Hid (Sep v n vs) := hS
  have HL : Hid (∀ i, i < n → L i ≤ 1000000) := hL
  have HV : Hid (∀ i, i < n → ∃ F, SI w (vs i) (L i) F) := hv
  have H0 : Hid (SRu w v n vs V) := h0
  obtain ⟨a, c, rfl, _⟩ := h0
  clear hS hL hv
  go_enter Tryz.func41, Tryz.ntmps41
  go_wp2
  go_loopw [1, 5] (fun m i wr => ∃ j : Nat, j ≤ n ∧ i = .int .i64 j ∧ m = .int .i64 (kTo k L j) ∧ Hid (∃ V', SRu wr (.slice a n c) n vs V' ∧ ∀ i, i < j → V' i = mkR k L i) ∧ Hid (∀ i, i < n → ∃ F', SI wr (vs i) (L i) F' ∧ (i < j → ∀ q, q < L i → F' q = kTo k L i + 2 + q)) ∧ Hid (Chg (inS (.slice a n c) n vs) w wr)) (fun _ i _ => n - (intOf i).toNat)
  case atStart => exact ⟨0, Nat.zero_le _, rfl, rfl, ⟨V, H0.out, fun i hi => absurd hi (Nat.not_lt_zero _)⟩, fun i hi => by obtain ⟨F, hF⟩ := HV.out i hi; exact ⟨F, hF, fun h => absurd h (Nat.not_lt_zero _)⟩, Chg.nx (Below.refl _ _)⟩
  obtain ⟨j, hjn, rfl, rfl, HR, HI, HC⟩ := hrel
  clear H0 HV
  have hkb := kTo_le (k := k) HL.out j hjn
  by_cases hlt : j < n
  · obtain ⟨V', ⟨a', c', e0, hk⟩, hV'⟩ := HR.out
    simp only [Value.slice.injEq, true_and] at e0
    obtain ⟨rfl, rfl⟩ := e0
    obtain ⟨g, rfl, hr⟩ := hk (by omega)
    obtain ⟨F', hF', _⟩ := HI.out j hlt
    obtain ⟨x0, x1, x2⟩ := hr.cells hlt
    have f0 := hr.frozen (j * 3)
    have hlt' : (j : Int) < n := by omega
    have HRR : Hid (RR wr g n vs V') := hr
    have HVV : Hid (∀ i, i < j → V' i = mkR k L i) := hV'
    have HFJ : Hid (SI wr (vs j) (L j) F') := hF'
    have hr1 := hr.set0 hlt (kTo k L j)
    have HR1 := mkHid hr1
    obtain ⟨y0, y1, y2⟩ := hr1.cells hlt
    have f1 := hr1.frozen (j * 3 + 1)
    have hr2 := hr1.set1 hlt ((kTo k L j + 1) % 3 == 0)
    have HR2 := mkHid hr2
    obtain ⟨z0, z1, z2⟩ := hr2.cells hlt
    obtain ⟨sa, sc, hvs, _⟩ := hF'
    have HVS : Hid (vs j = .slice sa (L j) sc) := hvs
    rw [hvs] at x2 y2 z2
    have hlj := HL.out j hlt
    generalize hKJ : kTo k L j = kj at *
    have HKJ : Hid (kTo k L j = kj) := hKJ
    have hmod : ¬ (3 : Int) = 0 := by omega
    clear hk hr hV' hr1 hr2 hvs hKJ
    go_wp2_with fail
    generalize hW5 : (wr.setCell ⟨g, j * 3, none⟩ (.int .i64 kj)).setCell ⟨g, j * 3 + 1, none⟩ (.bool ((kj + 1) % 3 == 0)) = w5 at *
    have HC5 : Hid (Chg (fun x => x = g) wr w5) := by unfold Hid; rw [← hW5]; exact (Chg.set (S := fun x => x = g) g _ _ rfl).trans (Chg.set (S := fun x => x = g) g _ _ rfl)
    have HNG : Hid (∀ i, i < n → (vs i).ownBlock ≠ some g) := fun i hi e => HS.out.row i g hi e rfl
    have sk : ∀ {i : Nat} {F : Nat → Int}, i < n → SI wr (vs i) (L i) F → SI w5 (vs i) (L i) F := fun {i F} hi h => h.keep2 (fun b hbl hb => HC5.out.block b hbl (fun e => HNG.out i hi (by rw [hb, e])))
    have HF5 : Hid (SI w5 (vs j) (L j) F') := sk hlt HFJ.out
    have HI5 : Hid (∀ i, i < n → ∃ F', SI w5 (vs i) (L i) F' ∧ (i < j → ∀ q, q < L i → F' q = kTo k L i + 2 + q)) := fun i hi => by
      obtain ⟨F, h1, h2⟩ := HI.out i hi
      exact ⟨F, sk hi h1, h2⟩
    clear sk hW5 x0 x1 x2 y0 y1 y2 z0 z1 z2 f0 f1
    refine (markI_any (.slice sa (L j) sc) (L j) F' w5 (kj + 1 + 1) (by have := HF5.out; rw [HVS.out] at this; exact this) (by omega) (by omega) (by omega)).mono ?_
    rintro e w6 ⟨rfl, hs6, ho6⟩
    have HO6 : Hid (Only (vs j).ownBlock w5 w6) := by unfold Hid; rw [HVS.out]; exact ho6
    have HS6 : Hid (SI w6 (vs j) (L j) (fun i => kj + 1 + 1 + i)) := by unfold Hid; rw [HVS.out]; exact hs6
    have HR6 : Hid (∃ V', SRu w6 (.slice (some ⟨g, 0, none⟩) n c) n vs V' ∧ ∀ i, i < j + 1 → V' i = mkR k L i) := by
      refine ⟨_, ⟨_, _, rfl, fun _ => ⟨g, rfl, HR2.out.keep (HO6.out.block g HR2.out.lt (fun e => HNG.out j hlt e.symm))⟩⟩, fun i hi => ?_⟩
      by_cases e : i = j
      · subst e
        simp [mkR, HKJ.out]
      · simp only [if_neg e]
        exact HVV.out i (by omega)
    have HI6 : Hid (∀ i, i < n → ∃ F', SI w6 (vs i) (L i) F' ∧ (i < j + 1 → ∀ q, q < L i → F' q = kTo k L i + 2 + q)) := fun i hi => by
      by_cases e : i = j
      · subst e
        exact ⟨_, HS6.out, fun _ q _ => by rw [HKJ.out]; omega⟩
      · obtain ⟨F, h1, h2⟩ := HI5.out i hi
        exact ⟨F, h1.keep2 (fun b hbl hb => HO6.out.block b hbl (fun e' => HS.out.two i j b hi hlt e hb e'.symm)), fun h => h2 (by omega)⟩
    have HC6 : Hid (Chg (inS (.slice (some ⟨g, 0, none⟩) n c) n vs) w w6) := (HC.out.trans (Chg.mono HC5.out (fun b e => Or.inl (by rw [e]; rfl)))).trans ⟨HO6.out.os, HO6.out.tape, HO6.out.output, HO6.out.size, fun b hb hn => HO6.out.block b hb (fun e => hn (Or.inr ⟨j, hlt, e⟩))⟩
    have HKN : Hid (kTo k L (j + 1) = kj + 1 + 1 + L j) := by unfold Hid kTo; rw [HKJ.out]; omega
    clear hs6 ho6
    go_wp2
    go_roundw
    case rel => exact ⟨j + 1, by omega, by go_num, by rw [HKN.out], HR6, HI6, HC6⟩
    case measure => simp [intOf]; omega
  · have ej : j = n := by omega
    subst ej
    go_wp2
    go_ret
    obtain ⟨V', ⟨a', c', e0, hk⟩, hV'⟩ := HR.out
    refine ⟨rfl, ⟨a', c', e0, fun hp => ?_⟩, fun i hi => ?_, HC.out⟩
    · obtain ⟨g, e1, hr⟩ := hk hp
      exact ⟨g, e1, hr.congr hV'⟩
    · obtain ⟨F, ⟨a2, c2, e2, h2⟩, h3⟩ := HI.out i hi
      refine ⟨a2, c2, e2, fun hp => ?_⟩
      obtain ⟨g, e1, hr⟩ := h2 hp
      exact ⟨g, e1, hr.congr fun q hq => h3 hi q hq⟩

set_option maxHeartbeats 4000000 in
theorem heldRules_any (v : Value) (n : Nat) (vs : Nat → Value) (L : Nat → Nat) (k : Int) (w : World) (h0 : SRu w v n vs (mkR k L)) (hv : ∀ i, i < n → SI w (vs i) (L i) (fun j => kTo k L i + 2 + j)) (hn : n ≤ 1000) (hL : ∀ i, i < n → L i ≤ 1000000) (hk0 : 0 ≤ k) (hk1 : k ≤ 1000000) :
    Calls Tryz.prog 43 #[v, .int .i64 k] w fun e w' => e = .returned (.int .i64 (kTo k L n)) ∧ w' = w := by
  have HL : Hid (∀ i, i < n → L i ≤ 1000000) := hL
  have HV : Hid (∀ i, i < n → SI w (vs i) (L i) (fun j => kTo k L i + 2 + j)) := hv
  obtain ⟨a, c, rfl, hr0⟩ := h0
  clear hL hv
  go_enter Tryz.func43, Tryz.ntmps43
  go_wp2
  go_loopw [1, 5] (fun m i wr => ∃ j : Nat, j ≤ n ∧ i = .int .i64 j ∧ m = .int .i64 (kTo k L j) ∧ wr = w) (fun _ i _ => n - (intOf i).toNat)
  case atStart => exact ⟨0, Nat.zero_le _, rfl, rfl, rfl⟩
  obtain ⟨j, hjn, rfl, rfl, rfl⟩ := hrel
  have hkb := kTo_le (k := k) HL.out j hjn
  by_cases hlt : j < n
  · obtain ⟨g, rfl, hr⟩ := hr0 (by omega)
    obtain ⟨x0, x1, x2⟩ := hr.cells hlt
    have HVJ := mkHid (HV.out j hlt)
    obtain ⟨sa, sc, hvs, _⟩ := HV.out j hlt
    have HVS : Hid (vs j = .slice sa (L j) sc) := hvs
    rw [hvs] at x2
    have hlj := HL.out j hlt
    have hlt' : (j : Int) < n := by omega
    unfold mkR at x0 x1
    have HKN : Hid (kTo k L (j + 1) = kTo k L j + 1 + 1 + L j) := by unfold Hid; show kTo k L j + 2 + L j = _; omega
    generalize kTo k L j = kj at *
    have hne : (kj != kj) = false := by simp
    have hne2 : (((kj + 1) % 3 == 0) != ((kj + 1) % 3 == 0)) = false := by simp
    have hpos : ¬ kj + 1 + 1 + (L j : Int) < 0 := by omega
    clear hr hvs
    go_wp2_with fail
    refine (heldI_any (.slice sa (L j) sc) (L j) _ (kj + 1 + 1) (by have := HVJ.out; rw [HVS.out] at this; simpa [show ∀ q : Int, kj + 2 + q = kj + 1 + 1 + q from fun q => by omega] using this) (by omega) (by omega) (by omega)).mono ?_
    rintro e w6 ⟨rfl, rfl⟩
    go_wp2
    go_roundw
    case rel => exact ⟨j + 1, by omega, by go_num, by rw [HKN.out], trivial⟩
    case measure => simp [intOf]; omega
  · have ej : j = n := by omega
    subst ej
    go_wp2
    go_ret
    exact ⟨rfl, rfl⟩

/-- n drops in block g -/
def RD (w : World) (g n : Nat) (V : Nat → Int × Int) : Prop := ∃ c : Array Value, w.heap[g]? = some (.cells c 104 (0, 0)) ∧ n * 2 ≤ c.size ∧ ∀ i, i < n → c[i * 2]? = some (.int .i64 (V i).1) ∧ c[i * 2 + 1]? = some (.int .i64 (V i).2)
theorem RD.cells {w : World} {g n : Nat} {V : Nat → Int × Int} (h : RD w g n V) {i : Nat} (hi : i < n) : w.cell? ⟨g, i * 2, none⟩ = some (.int .i64 (V i).1) ∧ w.cell? ⟨g, i * 2 + 1, none⟩ = some (.int .i64 (V i).2) := by
  obtain ⟨c, hh, hs, hc⟩ := h
  obtain ⟨h0, h1⟩ := hc i hi
  refine ⟨?_, ?_⟩ <;> simp only [World.cell?, hh] <;> assumption
theorem RD.frozen {w : World} {g n : Nat} {V : Nat → Int × Int} (h : RD w g n V) (o : Nat) : w.frozen? ⟨g, o, none⟩ = false := by
  obtain ⟨c, hh, _⟩ := h
  simp [World.frozen?, hh]
theorem RD.set0 {w : World} {g n : Nat} {V : Nat → Int × Int} (h : RD w g n V) {i : Nat} (hi : i < n) (z : Int) : RD (w.setCell ⟨g, i * 2, none⟩ (.int .i64 z)) g n (fun j => if j = i then (z, (V j).2) else V j) := by
  obtain ⟨c, hh, hs, hc⟩ := h
  refine ⟨c.setIfInBounds (i * 2) (.int .i64 z), by simp [World.setCell, Array.getElem?_modify, hh], by simpa using hs, fun j hj => ?_⟩
  obtain ⟨h0, h1⟩ := hc j hj
  by_cases e : j = i
  · subst e
    dsimp only
    rw [if_pos rfl]
    exact ⟨by rw [set_eq _ (by omega)], by rw [set_ne _ (by omega)]; exact h1⟩
  · dsimp only
    rw [if_neg e]
    exact ⟨by rw [set_ne _ (by omega)]; exact h0, by rw [set_ne _ (by omega)]; exact h1⟩
theorem RD.set1 {w : World} {g n : Nat} {V : Nat → Int × Int} (h : RD w g n V) {i : Nat} (hi : i < n) (z : Int) : RD (w.setCell ⟨g, i * 2 + 1, none⟩ (.int .i64 z)) g n (fun j => if j = i then ((V j).1, z) else V j) := by
  obtain ⟨c, hh, hs, hc⟩ := h
  refine ⟨c.setIfInBounds (i * 2 + 1) (.int .i64 z), by simp [World.setCell, Array.getElem?_modify, hh], by simpa using hs, fun j hj => ?_⟩
  obtain ⟨h0, h1⟩ := hc j hj
  by_cases e : j = i
  · subst e
    dsimp only
    rw [if_pos rfl]
    exact ⟨by rw [set_ne _ (by omega)]; exact h0, by rw [set_eq _ (by omega)]⟩
  · dsimp only
    rw [if_neg e]
    exact ⟨by rw [set_ne _ (by omega)]; exact h0, by rw [set_ne _ (by omega)]; exact h1⟩
theorem RD.congr {w : World} {g n : Nat} {V U : Nat → Int × Int} (h : RD w g n V) (e : ∀ i, i < n → V i = U i) : RD w g n U := by
  obtain ⟨c, hh, hs, hc⟩ := h
  exact ⟨c, hh, hs, fun i hi => by rw [← e i hi]; exact hc i hi⟩
def SDp (w : World) (v : Value) (n : Nat) (V : Nat → Int × Int) : Prop := ∃ a c, v = .slice a n c ∧ (0 < n → ∃ g, a = some ⟨g, 0, none⟩ ∧ RD w g n V)
def mkD (k : Int) (i : Nat) : Int × Int := (k + 2 * i, k + 2 * i + 1)

set_option maxHeartbeats 4000000 in
theorem markDrops_any (v : Value) (n : Nat) (V : Nat → Int × Int) (k : Int) (w : World) (h0 : SDp w v n V) (hn : n ≤ 1000) (hk0 : 0 ≤ k) (hk1 : k ≤ 1000000000000) :
    Calls Tryz.prog 42 #[v, .int .i64 k] w fun e w' => e = .returned (.int .i64 (k + 2 * n)) ∧ SDp w' v n (mkD k) ∧ Only v.ownBlock w w' := by
  have H0 : Hid (SDp w v n V) := h0
  obtain ⟨a, c, rfl, _⟩ := h0
  go_enter Tryz.func42, Tryz.ntmps42
  go_wp2
  go_loopw [1, 5] (fun m i wr => ∃ j : Nat, j ≤ n ∧ i = .int .i64 j ∧ m = .int .i64 (k + 2 * j) ∧ Hid (∃ V', SDp wr (.slice a n c) n V' ∧ ∀ i, i < j → V' i = mkD k i) ∧ Hid (Only (Value.slice a n c).ownBlock w wr)) (fun _ i _ => n - (intOf i).toNat)
  case atStart => exact ⟨0, Nat.zero_le _, rfl, by simp, ⟨V, H0.out, fun i hi => absurd hi (Nat.not_lt_zero _)⟩, Only.refl _ _⟩
  obtain ⟨j, hjn, rfl, rfl, HR, HO⟩ := hrel
  clear H0
  by_cases hlt : j < n
  · obtain ⟨V', ⟨a', c', e0, hk⟩, hV'⟩ := HR.out
    simp only [Value.slice.injEq, true_and] at e0
    obtain ⟨rfl, rfl⟩ := e0
    obtain ⟨g, rfl, hr⟩ := hk (by omega)
    obtain ⟨x0, x1⟩ := hr.cells hlt
    have f0 := hr.frozen (j * 2)
    have hlt' : (j : Int) < n := by omega
    have HVV : Hid (∀ i, i < j → V' i = mkD k i) := hV'
    have hr1 := hr.set0 hlt (k + 2 * j)
    obtain ⟨y0, y1⟩ := hr1.cells hlt
    have f1 := hr1.frozen (j * 2 + 1)
    have hr2 := hr1.set1 hlt (k + 2 * j + 1)
    have HR6 : Hid (∃ V', SDp ((wr.setCell ⟨g, j * 2, none⟩ (.int .i64 (k + 2 * j))).setCell ⟨g, j * 2 + 1, none⟩ (.int .i64 (k + 2 * j + 1))) (.slice (some ⟨g, 0, none⟩) n c) n V' ∧ ∀ i, i < j + 1 → V' i = mkD k i) := by
      refine ⟨_, ⟨_, _, rfl, fun _ => ⟨g, rfl, hr2⟩⟩, fun i hi => ?_⟩
      by_cases e : i = j
      · subst e
        simp [mkD]
      · simp only [if_neg e]
        exact HVV.out i (by omega)
    have HO6 : Hid (Only (Value.slice (some ⟨g, 0, none⟩) n c).ownBlock w ((wr.setCell ⟨g, j * 2, none⟩ (.int .i64 (k + 2 * j))).setCell ⟨g, j * 2 + 1, none⟩ (.int .i64 (k + 2 * j + 1)))) := (HO.out.set rfl _).set rfl _
    clear hk hr hV' hr1 hr2 HR HO
    go_wp2
    go_roundw
    case rel => exact ⟨j + 1, by omega, by go_num, by congr 1; omega, HR6, HO6⟩
    case measure => simp [intOf]; omega
  · have ej : j = n := by omega
    subst ej
    go_wp2
    go_ret
    obtain ⟨V', ⟨a', c', e0, hk⟩, hV'⟩ := HR.out
    refine ⟨rfl, ⟨a', c', e0, fun hp => ?_⟩, HO.out⟩
    obtain ⟨g, e1, hr⟩ := hk hp
    exact ⟨g, e1, hr.congr hV'⟩
set_option maxHeartbeats 4000000 in
theorem heldDrops_any (v : Value) (n : Nat) (k : Int) (w : World) (h0 : SDp w v n (mkD k)) (hn : n ≤ 1000) (hk0 : 0 ≤ k) (hk1 : k ≤ 1000000000000) :
    Calls Tryz.prog 44 #[v, .int .i64 k] w fun e w' => e = .returned (.int .i64 (k + 2 * n)) ∧ w' = w := by
  obtain ⟨a, c, rfl, hr0⟩ := h0
  go_enter Tryz.func44, Tryz.ntmps44
  go_wp2
  go_loopw [1, 5] (fun m i wr => ∃ j : Nat, j ≤ n ∧ i = .int .i64 j ∧ m = .int .i64 (k + 2 * j) ∧ wr = w) (fun _ i _ => n - (intOf i).toNat)
  case atStart => exact ⟨0, Nat.zero_le _, rfl, by simp, rfl⟩
  obtain ⟨j, hjn, rfl, rfl, rfl⟩ := hrel
  by_cases hlt : j < n
  · obtain ⟨g, rfl, hr⟩ := hr0 (by omega)
    obtain ⟨x0, x1⟩ := hr.cells hlt
    have hlt' : (j : Int) < n := by omega
    unfold mkD at x0 x1
    have hne : ((k + 2 * (j : Int)) != k + 2 * (j : Int)) = false := by simp
    have hne2 : ((k + 2 * (j : Int) + 1) != k + 2 * (j : Int) + 1) = false := by simp
    clear hr
    go_wp2
    go_roundw
    case rel => exact ⟨j + 1, by omega, by go_num, by congr 1; omega, trivial⟩
    case measure => simp [intOf]; omega
  · have ej : j = n := by omega
    subst ej
    go_wp2
    go_ret
    exact ⟨rfl, rfl⟩
end Go.Proofs.YtcdjmpbdaiafgaaGreatDoor

namespace Go.Proofs.YtcdjmpbdaiafgaaGreatDoor
open Go.RowKit Go.Sort
set_option linter.unusedVariables false
set_option maxRecDepth 100000

/-- a resolution that can be marked -/
structure RMk (C : Nat) (w : World) (vr vd : Value) (n : Nat) (vs : Nat → Value) (L : Nat → Nat) (m : Nat) : Prop where
  ru : ∃ V, SRu w vr n vs V
  sep : Sep vr n vs
  si : ∀ i, i < n → ∃ F, SI w (vs i) (L i) F
  dp : ∃ V, SDp w vd m V
  apart : ∀ g, vd.ownBlock = some g → ¬ inS vr n vs g
  lt : ∀ g, (inS vr n vs g ∨ some g = vd.ownBlock) → C ≤ g ∧ g < w.heap.size
  hn : n ≤ 1000
  hm : m ≤ 1000
  hL : ∀ i, i < n → L i ≤ 1000000
/-- a resolution of its own, with the values that hold its lists -/
structure ResV (C : Nat) (w : World) (vr vd : Value) (S : Rs) (vs : List Value) : Prop where
  len : vs.length = S.rules.length
  row : w.ownsRow C 100 3 vr S.rules.length (rcells S.rules vs)
  seq : ∀ i, i < S.rules.length → OwnI C w (vat vs i) (ruat S.rules i).seq
  ap : ∀ i j g, i < j → j < S.rules.length → (vat vs i).ownBlock = some g → (vat vs j).ownBlock ≠ some g
  drops : OwnD C w vd S.drops
theorem ResV.of {C : Nat} {w : World} {vr vd : Value} {S : Rs} (hr : OwnX C w vr S.rules) (hd : OwnD C w vd S.drops) : ∃ vs, ResV C w vr vd S vs := by
  obtain ⟨vs, k0, k1, k2, k3⟩ := hr
  exact ⟨vs, k0, k1, k2, k3, hd⟩
theorem ResV.own {C : Nat} {w : World} {vr vd : Value} {S : Rs} {vs : List Value} (h : ResV C w vr vd S vs) : OwnX C w vr S.rules := ⟨vs, h.len, h.row, h.seq, h.ap⟩
theorem RMk.of {C : Nat} {w : World} {vr vd : Value} {S : Rs} {vs : List Value} (hr : ResV C w vr vd S vs) (h1 : S.rules.length ≤ 1000) (h2 : S.drops.length ≤ 1000) (h3 : ∀ i, i < S.rules.length → (ruat S.rules i).seq.length ≤ 1000000) : RMk C w vr vd S.rules.length (vat vs) (fun i => (ruat S.rules i).seq.length) S.drops.length := by
  obtain ⟨k0, k1, k2, k3, hd⟩ := hr
  have hl1 := own_lt k1
  have hl2 := own_lt hd
  refine ⟨?_, ⟨?_, ?_⟩, ?_, ?_, ?_, ?_, h1, h2, h3⟩
  · obtain ⟨_, h4⟩ := k1
    rcases h4 with ⟨rfl, h5⟩ | ⟨g, cap, cur, rfl, hg, hh, hc, hm, hs, ht⟩
    · exact ⟨fun _ => (0, false), none, 0, by rw [h5], fun hp => by rw [h5] at hp; cases hp⟩
    · refine ⟨fun i => ((ruat S.rules i).rel, (ruat S.rules i).only), _, _, rfl, fun _ => ⟨g, rfl, cur, hh, by omega, fun i hi => ?_⟩⟩
      have hz : (S.rules.zip vs)[i]? = some (ruat S.rules i, vat vs i) := by
        rw [List.getElem?_zip_eq_some]
        exact ⟨by rw [ruat_eq hi]; exact List.getElem?_eq_getElem hi, by simp [vat, List.getD, List.getElem?_eq_getElem (show i < vs.length by omega)]⟩
      have key : ∀ q, q < 3 → cur[i * 3 + q]? = (rcell (ruat S.rules i, vat vs i))[q]? := fun q hq => by
        have e1 : (cur.toList.take (S.rules.length * 3))[i * 3 + q]? = (rcells S.rules vs)[i * 3 + q]? := by rw [ht]
        rw [List.getElem?_take_of_lt (by omega), Array.getElem?_toList] at e1
        have e2 := flat3 (S.rules.zip vs) rcell (fun _ => rfl) i q hq _ hz
        unfold rcells at e1
        rw [e2] at e1
        exact e1
      exact ⟨key 0 (by omega), key 1 (by omega), key 2 (by omega)⟩
  · intro i g hi hg e
    rcases own_ne (k2 i hi) k1 (by decide) with q | q
    · rw [q] at hg; cases hg
    · exact q (hg.trans e.symm)
  · intro i j g hi hj hij hg e
    rcases Nat.lt_or_gt_of_ne hij with q | q
    · exact k3 i j g q hj hg e
    · exact k3 j i g q hi e hg
  · exact fun i hi => ⟨_, (k2 i hi).si⟩
  · obtain ⟨_, h4⟩ := hd
    rcases h4 with ⟨rfl, h5⟩ | ⟨g, cap, cur, rfl, hg, hh, hc, hm, hs, ht⟩
    · exact ⟨fun _ => (0, 0), none, 0, by rw [h5], fun hp => by rw [h5] at hp; cases hp⟩
    · refine ⟨fun i => ((dpat S.drops i).rel, (dpat S.drops i).reason), _, _, rfl, fun _ => ⟨g, rfl, cur, hh, by omega, fun i hi => ?_⟩⟩
      have key : ∀ q, q < 2 → cur[i * 2 + q]? = ([Value.int .i64 (dpat S.drops i).rel, .int .i64 (dpat S.drops i).reason])[q]? := fun q hq => by
        have e1 : (cur.toList.take (S.drops.length * 2))[i * 2 + q]? = (dcells S.drops)[i * 2 + q]? := by rw [ht]
        rw [List.getElem?_take_of_lt (by omega), Array.getElem?_toList] at e1
        have e2 := flat2 S.drops (fun x => [Value.int .i64 x.rel, .int .i64 x.reason]) (fun _ => rfl) i q hq (dpat S.drops i) (by rw [dpat_eq hi]; exact List.getElem?_eq_getElem hi)
        unfold dcells at e1
        rw [e2] at e1
        exact e1
      exact ⟨key 0 (by omega), key 1 (by omega)⟩
  · rintro g hg (e | ⟨i, hi, e⟩)
    · rcases own_ne k1 hd (by decide) with q | q
      · rw [q] at e; cases e
      · exact q (e.symm.trans hg.symm)
    · rcases own_ne (k2 i hi) hd (by decide) with q | q
      · rw [q] at e; cases e
      · exact q (e.symm.trans hg.symm)
  · rintro g ((e | ⟨i, hi, e⟩) | e)
    · exact hl1 g e.symm
    · exact own_lt (k2 i hi) g e.symm
    · exact hl2 g e.symm
theorem SRu.keep {w w' : World} {v : Value} {n : Nat} {vs : Nat → Value} {V : Nat → Int × Bool} (h : SRu w v n vs V) (k : ∀ g, g < w.heap.size → v.ownBlock = some g → w'.heap[g]? = w.heap[g]?) : SRu w' v n vs V := by
  obtain ⟨a, c, rfl, hk⟩ := h
  refine ⟨a, c, rfl, fun hp => ?_⟩
  obtain ⟨g, rfl, hr⟩ := hk hp
  exact ⟨g, rfl, hr.keep (k g hr.lt rfl)⟩
theorem SDp.keep {w w' : World} {v : Value} {n : Nat} {V : Nat → Int × Int} (h : SDp w v n V) (k : ∀ g, g < w.heap.size → v.ownBlock = some g → w'.heap[g]? = w.heap[g]?) : SDp w' v n V := by
  obtain ⟨a, c, rfl, hk⟩ := h
  refine ⟨a, c, rfl, fun hp => ?_⟩
  obtain ⟨g, rfl, cc, hh, r⟩ := hk hp
  exact ⟨g, rfl, cc, (k g (Array.getElem?_eq_some_iff.1 hh).1 rfl).trans hh, r⟩
def inM (vr vd : Value) (n : Nat) (vs : Nat → Value) (b : Nat) : Prop := inS vr n vs b ∨ some b = vd.ownBlock

set_option maxHeartbeats 4000000 in
theorem markRes_any (C : Nat) (vr vd : Value) (n : Nat) (vs : Nat → Value) (L : Nat → Nat) (m : Nat) (w : World) (h : RMk C w vr vd n vs L m) :
    Calls Tryz.prog 12 #[.agg #[vr, vd], .int .i64 1] w fun e w' => e = .returned (.int .i64 (kTo 1 L n + 2 * m)) ∧ (SRu w' vr n vs (mkR 1 L) ∧ (∀ i, i < n → SI w' (vs i) (L i) (fun j => kTo 1 L i + 2 + j)) ∧ SDp w' vd m (mkD (kTo 1 L n))) ∧ Chg (inM vr vd n vs) w w' := by
  have H : Hid (RMk C w vr vd n vs L m) := h
  obtain ⟨V, hV⟩ := h.ru
  obtain ⟨U, hU⟩ := h.dp
  have HV : Hid (SRu w vr n vs V) := hV
  have HU : Hid (SDp w vd m U) := hU
  obtain ⟨ar, cr, rfl, _⟩ := hV
  obtain ⟨ad, cd, rfl, _⟩ := hU
  clear h
  go_enter Tryz.func12, Tryz.ntmps12
  go_wp2_with fail
  generalize hW0 : w.alloc (.cells #[.slice ar n cr, .slice ad m cd] 32) = w0
  have HX0 : Hid (Nx w w0) := by unfold Hid; rw [← hW0]; exact box1 _ _
  have HB0 : Hid (BT w0 w.heap.size #[.slice ar n cr, .slice ad m cd] 32) := by unfold Hid; rw [← hW0]; exact BT.new _ _ _ _ rfl
  clear hW0
  have kp : ∀ g, g < w.heap.size → w0.heap[g]? = w.heap[g]? := fun g hg => HX0.out.block g hg
  refine (markRules_any _ n vs L V 1 w0 (HV.out.keep fun g hg _ => kp g hg) H.out.sep (fun i hi => by obtain ⟨F, hF⟩ := H.out.si i hi; exact ⟨F, hF.keep2 fun g hg _ => kp g hg⟩) H.out.hn H.out.hL (by omega) (by omega)).mono ?_
  rintro e w1 ⟨rfl, hs1, hi1, hc1⟩
  have HS1 : Hid (SRu w1 (.slice ar n cr) n vs (mkR 1 L)) := hs1
  have HI1 : Hid (∀ i, i < n → SI w1 (vs i) (L i) (fun j => kTo 1 L i + 2 + j)) := hi1
  have HC1 : Hid (Chg (inS (.slice ar n cr) n vs) w0 w1) := hc1
  have nb : ¬ inS (.slice ar n cr) n vs w.heap.size := fun x => by have := (H.out.lt _ (Or.inl x)).2; omega
  have HB1 : Hid (BT w1 w.heap.size #[.slice ar n cr, .slice ad m cd] 32) := HB0.out.chg hc1 nb
  have HD1 : Hid (SDp w1 (.slice ad m cd) m U) := (HU.out.keep fun g hg _ => kp g hg).keep (fun g hg e => hc1.block g hg (H.out.apart g e))
  have hkb := kTo_le (k := 1) H.out.hL n (Nat.le_refl _)
  have hn := H.out.hn
  have hm := H.out.hm
  have x1 := HB1.out.blk.cell (i := 1) rfl
  generalize hK : kTo 1 L n = kn at *
  have HK : Hid (kTo 1 L n = kn) := hK
  clear hs1 hi1 hc1 kp hK
  go_wp2_with fail
  refine (markDrops_any _ m U kn w1 HD1.out hm (by omega) (by omega)).mono ?_
  rintro e w2 ⟨rfl, hs2, ho2⟩
  have HS2 : Hid (SDp w2 (.slice ad m cd) m (mkD kn)) := hs2
  have HO2 : Hid (Only (Value.slice ad m cd).ownBlock w1 w2) := ho2
  clear hs2 ho2
  go_wp2
  go_ret
  rw [HK.out]
  refine ⟨rfl, ⟨HS1.out.keep (fun g hg e => HO2.out.block g hg (fun q => H.out.apart g q.symm (Or.inl e.symm))), fun i hi => (HI1.out i hi).keep2 (fun g hg e => HO2.out.block g hg (fun q => H.out.apart g q.symm (Or.inr ⟨i, hi, e.symm⟩))), HS2.out⟩, ?_⟩
  exact ((Chg.nx HX0.out).trans (Chg.mono HC1.out (fun b x => Or.inl x))).trans ⟨HO2.out.os, HO2.out.tape, HO2.out.output, HO2.out.size, fun b hb hn => HO2.out.block b hb (fun e => hn (Or.inr e))⟩
set_option maxHeartbeats 4000000 in
theorem heldRes_any (vr vd : Value) (n : Nat) (vs : Nat → Value) (L : Nat → Nat) (m : Nat) (w : World) (h1 : SRu w vr n vs (mkR 1 L)) (h2 : ∀ i, i < n → SI w (vs i) (L i) (fun j => kTo 1 L i + 2 + j)) (h3 : SDp w vd m (mkD (kTo 1 L n))) (hn : n ≤ 1000) (hm : m ≤ 1000) (hL : ∀ i, i < n → L i ≤ 1000000) :
    Calls Tryz.prog 13 #[.agg #[vr, vd], .int .i64 1] w fun e w' => e = .returned (.int .i64 (kTo 1 L n + 2 * m)) ∧ Nx w w' := by
  have H1 : Hid (SRu w vr n vs (mkR 1 L)) := h1
  have H2 : Hid (∀ i, i < n → SI w (vs i) (L i) (fun j => kTo 1 L i + 2 + j)) := h2
  have H3 : Hid (SDp w vd m (mkD (kTo 1 L n))) := h3
  have HL : Hid (∀ i, i < n → L i ≤ 1000000) := hL
  obtain ⟨ar, cr, rfl, _⟩ := h1
  obtain ⟨ad, cd, rfl, _⟩ := h3
  clear h2 hL
  go_enter Tryz.func13, Tryz.ntmps13
  go_wp2_with fail
  generalize hW0 : w.alloc (.cells #[.slice ar n cr, .slice ad m cd] 32) = w0
  have HX0 : Hid (Nx w w0) := by unfold Hid; rw [← hW0]; exact box1 _ _
  have HB0 : Hid (BT w0 w.heap.size #[.slice ar n cr, .slice ad m cd] 32) := by unfold Hid; rw [← hW0]; exact BT.new _ _ _ _ rfl
  clear hW0
  have kp : ∀ g, g < w.heap.size → w0.heap[g]? = w.heap[g]? := fun g hg => HX0.out.block g hg
  refine (heldRules_any _ n vs L 1 w0 (H1.out.keep fun g hg _ => kp g hg) (fun i hi => (H2.out i hi).keep2 fun g hg _ => kp g hg) hn HL.out (by omega) (by omega)).mono ?_
  rintro e w1 ⟨rfl, rfl⟩
  have hkb := kTo_le (k := 1) HL.out n (Nat.le_refl _)
  have HD1 : Hid (SDp w1 (.slice ad m cd) m (mkD (kTo 1 L n))) := H3.out.keep fun g hg _ => kp g hg
  have x1 := HB0.out.blk.cell (i := 1) rfl
  generalize hK : kTo 1 L n = kn at *
  have HK : Hid (kTo 1 L n = kn) := hK
  have hp : ¬ kn < 0 := by omega
  have hp2 : ¬ kn + 2 * (m : Int) < 0 := by omega
  clear kp hK
  go_wp2_with fail
  refine (heldDrops_any _ m kn w1 HD1.out hm (by omega) (by omega)).mono ?_
  rintro e w2 ⟨rfl, rfl⟩
  go_wp2
  go_ret
  rw [HK.out]
  exact ⟨rfl, HX0.out⟩
end Go.Proofs.YtcdjmpbdaiafgaaGreatDoor
