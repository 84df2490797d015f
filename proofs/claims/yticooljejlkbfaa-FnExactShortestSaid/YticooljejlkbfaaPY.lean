import Derived.Test.YticooljejlkbfaaPX
namespace Go.Proofs.Yticooljejlkbfaa
open Go.RowKit Go.Sort Go.Maps Go.Shelf
set_option linter.unusedVariables false
set_option maxRecDepth 100000
attribute [local go_sem] Oper.semAt_some

/-- what slices.Backward reads: a row of vertices, through a box -/
structure ITB (W : World) (bq : Nat) (sa : Option Addr) (cap : Nat) (S : List Nat) : Prop where
  b : W.cell? ⟨bq, 0, none⟩ = some (.slice sa S.length cap)
  r : ∀ i, i < S.length → ∃ gs, sa = some ⟨gs, 0, none⟩ ∧ W.cell? ⟨gs, i, none⟩ = some (.int .i64 (lat S i : Int))
/-- what has come when c rounds are over -/
def bk (S : List Nat) (c : Nat) : List (Nat × Nat) := (List.range c).map (fun d => (S.length - 1 - d, lat S (S.length - 1 - d)))
theorem bk_snoc (S : List Nat) (c : Nat) : bk S (c + 1) = bk S c ++ [(S.length - 1 - c, lat S (S.length - 1 - c))] := by simp [bk, List.range_succ]
theorem bk_len (S : List Nat) (c : Nat) : (bk S c).length = c := by simp [bk]
def encB (x : Nat × Nat) : Array Value := #[.int .i64 (x.1 : Int), .int .i64 (x.2 : Int)]

set_option maxHeartbeats 8000000 in
theorem back1_in (m l bq : Nat) (sa : Option Addr) (cap : Nat) (S : List Nat) (hl : S.length ≤ 10000) (J Jx : List (Nat × Nat) → World → Prop) (W : World)
    (hY : ∀ pre x W, (∃ c, c < S.length ∧ x = (S.length - 1 - c, lat S (S.length - 1 - c)) ∧ pre = bk S c) → J pre W → YieldAt Fence.wide m Try.prog l (encB x) W fun e W' => (e = .returned (.bool true) ∧ J (pre ++ [x]) W' ∧ (ITB W bq sa cap S → ITB W' bq sa cap S)) ∨ (e = .returned (.bool false) ∧ Jx (pre ++ [x]) W'))
    (hI : ITB W bq sa cap S) (h0 : J [] W) :
    CallsIn Fence.wide (m + 1) Try.prog 72 #[.func (.yield l) #[] #[], .pointer (some ⟨bq, 0, none⟩)] W fun e W' => (∃ x, e = .returned x) ∧ ((∃ ys, ys = bk S S.length ∧ J ys W') ∨ (∃ pre, (∃ c, c < S.length ∧ pre = bk S (c + 1)) ∧ Jx pre W')) := by
  have HY : Hid (∀ pre x W, (∃ c, c < S.length ∧ x = (S.length - 1 - c, lat S (S.length - 1 - c)) ∧ pre = bk S c) → J pre W → YieldAt Fence.wide m Try.prog l (encB x) W fun e W' => (e = .returned (.bool true) ∧ J (pre ++ [x]) W' ∧ (ITB W bq sa cap S → ITB W' bq sa cap S)) ∨ (e = .returned (.bool false) ∧ Jx (pre ++ [x]) W')) := hY
  have HI0 : Hid (ITB W bq sa cap S) := hI
  have HJ0 : Hid (J (bk S 0) W) := h0
  have x0 := hI.b
  clear hY hI h0
  refine callsIn_of_wp Try.func72 rfl trivial ?_ rfl
  simp only [Try.ntmps72, List.size_toArray, List.length_cons, List.length_nil, Nat.reduceAdd, Nat.reduceSub, Array.replicate_succ, Array.replicate_zero, List.push_toArray, List.append_toArray, List.nil_append, List.cons_append]
  gi_wp2
  clear x0
  gi_loopw [3] (fun i wr => ∃ c : Nat, c ≤ S.length ∧ i = .int .i64 ((S.length : Int) - 1 - (c : Int)) ∧ Hid (J (bk S c) wr) ∧ Hid (ITB wr bq sa cap S)) (fun i _ => (intOf i + 1).toNat)
  case atStart => exact ⟨0, Nat.zero_le _, by simp, HJ0, HI0⟩
  case round =>
    clear HJ0 HI0
    obtain ⟨c, hc, rfl, HJ, HI⟩ := hrel
    by_cases hlt : c < S.length
    · obtain ⟨d, hd⟩ : ∃ d : Nat, (S.length : Int) - 1 - (c : Int) = (d : Int) := ⟨S.length - 1 - c, by omega⟩
      have hdl : d < S.length := by omega
      have hde : S.length - 1 - c = d := by omega
      have x1 := HI.out.b
      obtain ⟨gs, hsa, x2⟩ := HI.out.r d hdl
      subst hsa
      obtain ⟨fn, tmps, assign, body, hy, hR⟩ := HY.out (bk S c) (d, lat S d) wr ⟨c, hlt, by rw [hde], rfl⟩ HJ.out
      have HR : Hid (RoundIn Fence.wide m Try.prog l fn tmps assign body wr _) := hR
      dsimp only [encB] at hy
      have HSN : Hid (bk S (c + 1) = bk S c ++ [(d, lat S d)]) := by unfold Hid; rw [bk_snoc, hde]
      have HD : Hid ((S.length : Int) - 1 - (c : Int) = (d : Int)) := hd
      have hdi : (d : Int) < (S.length : Int) := by omega
      have hd1 : (S.length : Int) - 1 - ((c + 1 : Nat) : Int) = (d : Int) - 1 := by omega
      have HD1 : Hid ((S.length : Int) - 1 - ((c + 1 : Nat) : Int) = (d : Int) - 1) := hd1
      rw [hd]
      clear hR hd1 hd hde
      gi_wp2
      refine RoundIn.mono HR.out ?_
      rintro e W3 (⟨rfl, hJ3, hk3⟩ | ⟨rfl, hJx3⟩)
      · have HJ3 : Hid (J (bk S (c + 1)) W3) := by unfold Hid; rw [HSN.out]; exact hJ3
        have HI3 : Hid (ITB W3 bq (some ⟨gs, 0, none⟩) cap S) := hk3 HI.out
        clear hJ3 hk3 hy x1 x2
        gi_wp2
        go_roundw
        case rel => exact ⟨c + 1, by omega, by rw [HD1.out], HJ3, HI3⟩
        case measure => simp [intOf]
      · gi_wp2
        refine bodyPost_ret (results_none rfl _ _ _) rfl ?_
        exact ⟨⟨_, rfl⟩, Or.inr ⟨_, ⟨c, hlt, HSN.out.symm⟩, hJx3⟩⟩
    · have he : c = S.length := by omega
      have HF : Hid (J (bk S S.length) wr) := by rw [← he]; exact HJ
      have hi : (S.length : Int) - 1 - (c : Int) = -1 := by omega
      rw [hi]
      clear hi he
      gi_wp2
      go_end0
      exact ⟨⟨_, rfl⟩, Or.inl ⟨_, rfl, HF.out⟩⟩
theorem ITB.kept {W W' : World} {bq : Nat} {sa : Option Addr} {cap : Nat} {S : List Nat} (h : ITB W bq sa cap S) (k : ∀ b o u, W.cell? ⟨b, o, none⟩ = some u → W'.cell? ⟨b, o, none⟩ = some u) : ITB W' bq sa cap S :=
  ⟨k _ _ _ h.b, fun i hi => by obtain ⟨gs, e, hc⟩ := h.r i hi; exact ⟨gs, e, k _ _ _ hc⟩⟩
/-- a round's place in a walk backwards -/
def okB (S : List Nat) (x : Nat × Nat) : Prop := ∃ c, c < S.length ∧ x = (S.length - 1 - c, lat S (S.length - 1 - c))
abbrev BackX (S : List Nat) : Type := { x : Nat × Nat // okB S x }
/-- **slices.Backward, as a sequence** -/
theorem back_stops (d bq : Nat) (sa : Option Addr) (cap : Nat) (S : List Nat) (hl : S.length ≤ 10000) (w : World) (hI : ITB w bq sa cap S) :
    SeqStopsK Fence.wide (d + 1) Try.prog 72 #[.pointer (some ⟨bq, 0, none⟩)] (fun x : BackX S => encB x.1) (fun W W' => ITB W bq sa cap S → ITB W' bq sa cap S) (fun ys => ys.map (·.1) = bk S S.length) (fun pre => ∃ c, c < S.length ∧ pre.map (·.1) = bk S (c + 1)) S.length w := by
  intro l J Jx W hW hJ hJx hY h0
  refine (back1_in d l bq sa cap S hl (fun ys W => ∃ zs : List (BackX S), zs.map (·.1) = ys ∧ J zs W) (fun ys W => ∃ zs : List (BackX S), zs.map (·.1) = ys ∧ Jx zs W) W ?_ (hI.kept (fun b o u h => cell_next hW (cell_lt h) h)) ⟨[], rfl, h0⟩).mono ?_
  · rintro pre x X ⟨c, hc, hx, hp⟩ ⟨zs, e, hz⟩
    refine (hY zs ⟨x, c, hc, hx⟩ X hz (by have : zs.length = c := by rw [← bk_len S c, ← hp, ← e]; simp
                                          omega)).mono (fun e' X' h => ?_)
    rcases h with ⟨h1, h2, h3⟩ | ⟨h1, h2⟩
    · exact Or.inl ⟨h1, ⟨zs ++ [⟨x, c, hc, hx⟩], by rw [List.map_append, e]; rfl, h2⟩, h3⟩
    · exact Or.inr ⟨h1, ⟨zs ++ [⟨x, c, hc, hx⟩], by rw [List.map_append, e]; rfl, h2⟩⟩
  · rintro e X ⟨he, h⟩
    refine ⟨he, ?_⟩
    rcases h with ⟨ys, rfl, zs, ez, hz⟩ | ⟨pre, ⟨c, h1, rfl⟩, zs, ez, hz⟩
    · exact Or.inl ⟨zs, ez, hz⟩
    · exact Or.inr ⟨zs, ⟨c, h1, ez⟩, hz⟩
set_option maxHeartbeats 2000000 in
/-- slices.Backward(s) -/
theorem back_any (a : Option Addr) (n c : Nat) (w : World) :
    Calls Try.prog 68 #[.slice a n c] w fun e w' => e = .returned (.func (.func 72) #[] #[.pointer (some ⟨w.heap.size, 0, none⟩)]) ∧ w' = w.alloc (.cells #[.slice a n c] 22) := by
  have hmf : ∀ (fn : Fn) (first cap : Array Value) (w : World), (Instr.makeFunc fn first cap).run Try.prog w = .ok (.func fn first cap) w := fun _ _ _ _ => rfl
  go_enter Try.func68, Try.ntmps68
  go_wp2
  go_ret
  exact ⟨rfl, rfl⟩
end Go.Proofs.Yticooljejlkbfaa

namespace Go.Proofs.Yticooljejlkbfaa
open Go.RowKit Go.Sort Go.Maps Go.Shelf
set_option linter.unusedVariables false
set_option maxRecDepth 100000

set_option maxHeartbeats 2000000 in
theorem newHeap_any (sb : Nat) (w : World) :
    Calls Try.prog 49 #[cmpF sb] w fun e w' => e = .returned (.pointer (some ⟨w.heap.size + 1, 0, none⟩)) ∧ w' = (w.alloc (.map #[] 0)).alloc (.cells #[cmpF sb, .slice none 0 0, .map (some w.heap.size)] 84) := by
  have hmm := @run_makeMap Try.prog
  unfold cmpF
  go_enter Try.func49, Try.ntmps49
  go_wp2
  go_ret
  exact ⟨rfl, rfl⟩
/-- a new heap is empty -/
theorem newHeap_hq (C sb n : Nat) (K : Nat → Rk) (w : World) (hC : C ≤ w.heap.size) : HQ C ((w.alloc (.map #[] 0)).alloc (.cells #[cmpF sb, .slice none 0 0, .map (some w.heap.size)] 84)) (w.heap.size + 1) sb (.slice none 0 0) w.heap.size K n [] (.map []) := by
  refine ⟨⟨?_, ⟨rfl, Or.inl ⟨rfl, rfl⟩⟩, ?_⟩, fun i _ hi => absurd hi (by simp), fun i j hi => absurd hi (by simp), ⟨isMap_empty, tidy_empty, fun i hi => absurd hi (by simp), fun v hv => by simp [has] at hv⟩, fun y hy => by simp at hy, by simp [size]⟩
  · have := hn_base (w := w.alloc (.map #[] 0)) (o := .cells #[cmpF sb, .slice none 0 0, .map (some w.heap.size)] 84) (g := w.heap.size + 1) (size_alloc' _ _).symm
    exact this
  · exact (World.ownsMap_made w Try.prog 2 (plainElem Try.prog 3)).alloc _
end Go.Proofs.Yticooljejlkbfaa
