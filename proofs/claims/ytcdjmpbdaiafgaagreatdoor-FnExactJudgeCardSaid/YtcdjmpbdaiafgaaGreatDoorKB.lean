import Derived.Test.YtcdjmpbdaiafgaaGreatDoorRoR
import Derived.Maps.AppendAt
import Derived.Test.YtcdjmpbdaiafgaaGreatDoorRoM
import Derived.Deep.RegionHeld3
namespace Go.Proofs.YtcdjmpbdaiafgaaGreatDoor
open Go.RowKit
set_option linter.unusedVariables false
set_option maxRecDepth 100000

def agTo (a b : List Int) (k : Nat) : Prop := ∀ i, i < k → iat a i = iat b i
theorem agTo_zero (a b : List Int) : agTo a b 0 := fun i hi => absurd hi (Nat.not_lt_zero _)
theorem agTo_succ {a b : List Int} {k : Nat} (h : agTo a b k) (hk : iat a k = iat b k) : agTo a b (k + 1) := by
  intro i hi
  rcases Nat.lt_succ_iff_lt_or_eq.1 hi with h1 | rfl
  · exact h i h1
  · exact hk
theorem ag_all {a b : List Int} (h : agTo a b a.length) (hl : a.length = b.length) : a = b := by
  apply List.ext_getElem hl
  intro i h1 h2
  have := h i h1
  rwa [iat_eq h1, iat_eq h2] at this
set_option maxHeartbeats 1000000 in
theorem l2Same_any (B B' : Nat) (v v' : Value) (xs ys : List Int) (w : World) (h0 : HInts B w v xs) (h1 : HInts B' w v' ys) :
    Calls Tryz.prog 57 #[v, v'] w fun e w' => e = .returned (.bool (decide (xs = ys))) ∧ Nx w w' := by
  obtain ⟨a, cap, rfl, hn, hk⟩ := h0
  obtain ⟨a', cap', rfl, hn', hk'⟩ := h1
  unfold maxLen at hn hn'
  generalize hz : xs.length = n at *
  have HZ : Hid (xs.length = n) := hz
  clear hz
  generalize hz : ys.length = n' at *
  have HZ' : Hid (ys.length = n') := hz
  clear hz
  by_cases hl : n = n'
  case neg =>
    have hd : ((n : Int) != (n' : Int)) = true := by simp; omega
    have HF : Hid (false = decide (xs = ys)) := by
      unfold Hid
      symm
      rw [decide_eq_false_iff_not]
      intro e
      apply hl
      rw [← HZ.out, ← HZ'.out, e]
    clear hl
    go_enter Tryz.func57, Tryz.ntmps57
    go_wp2
    go_ret
    exact ⟨ret_bool HF.out, Nx.refl _⟩
  subst hl
  have hd : ((n : Int) != (n : Int)) = false := by simp
  go_enter Tryz.func57, Tryz.ntmps57
  go_wp2
  go_loopw [5] (fun i wr => ∃ k : Nat, k ≤ n ∧ i = .int .i64 k ∧ Hid (agTo xs ys k) ∧ Hid (Nx w wr)) (fun i _ => n - (intOf i).toNat)
  case atStart => exact ⟨0, Nat.zero_le _, rfl, agTo_zero _ _, Nx.refl _⟩
  obtain ⟨k, hkn, rfl, HA, HN⟩ := hrel
  by_cases hlt : k < n
  · obtain ⟨b, off, rfl, hB, hb, hc⟩ := hk (by omega)
    obtain ⟨b', off', rfl, hB', hb', hc'⟩ := hk' (by omega)
    have c0 := cell_next HN.out hb (hc k hlt)
    have c1 := cell_next HN.out hb' (hc' k hlt)
    have hlt' : (k : Int) < n := by omega
    clear hc hk hc' hk'
    by_cases he : iat xs k = iat ys k
    · have he' : (iat xs k != iat ys k) = false := by simpa using he
      have HA' : Hid (agTo xs ys (k + 1)) := agTo_succ HA.out he
      clear he
      go_wp2
      go_quiet (fail)
      go_wp2
      go_roundw
      case rel => exact ⟨k + 1, by omega, by go_num, HA', HN.out.trans ⟨rfl, rfl, rfl, Nat.le_refl _, fun _ _ => rfl⟩⟩
      case measure => simp [intOf]; omega
    · have he' : (iat xs k != iat ys k) = true := by simpa using he
      have HF : Hid (false = decide (xs = ys)) := by
        unfold Hid
        symm
        rw [decide_eq_false_iff_not]
        intro e
        exact he (by rw [e])
      clear he
      go_wp2
      go_quiet (fail)
      go_wp2
      go_ret
      exact ⟨ret_bool HF.out, HN.out.trans ⟨rfl, rfl, rfl, Nat.le_refl _, fun _ _ => rfl⟩⟩
  have ek : n = k := by omega
  subst ek
  have HF : Hid (true = decide (xs = ys)) := by
    unfold Hid
    symm
    rw [decide_eq_true_iff]
    exact ag_all (by rw [HZ.out]; exact HA.out) (by rw [HZ.out, HZ'.out])
  clear HA hlt hkn hk hk'
  go_wp2
  go_ret
  exact ⟨ret_bool HF.out, HN.out⟩

def tkI (zs : List Int) (k : Nat) : List Int := zs.take k
theorem tkI_succ {zs : List Int} {k : Nat} (h : k < zs.length) : tkI zs (k + 1) = tkI zs k ++ [iat zs k] := by
  unfold tkI
  rw [List.take_succ_eq_append_getElem h, iat_eq h]
theorem tkI_len {zs : List Int} {k : Nat} (h : k ≤ zs.length) : (tkI zs k).length = k := by simp [tkI, h]
theorem tkI_all (zs : List Int) : tkI zs zs.length = zs := by simp [tkI]

set_option maxHeartbeats 2000000 in
theorem l2Plus_any (B B' : Nat) (v v' : Value) (xs ys : List Int) (w : World) (h0 : HInts B w v xs) (h1 : HInts B' w v' ys) (ha : xs.length ≤ 1048576) (hb : ys.length ≤ 1048576) :
    Calls Tryz.prog 114 #[v, v'] w fun e w' => (∃ u, e = .returned u ∧ OwnI w.heap.size w' u (xs ++ ys)) ∧ Nx w w' := by
  obtain ⟨ii, hi, hz0, hz1, hz2⟩ := info_parts infoInt
  obtain ⟨a, cap, rfl, hn, hk⟩ := h0
  obtain ⟨a', cap', rfl, hn', hk'⟩ := h1
  unfold maxLen at hn hn'
  generalize hz : xs.length = n at *
  have HZ : Hid (xs.length = n) := hz
  clear hz
  generalize hz : ys.length = n' at *
  have HZ' : Hid (ys.length = n') := hz
  clear hz
  go_enter Tryz.func114, Tryz.ntmps114
  go_wp2
  go_loopw [5, 6] (fun u i wr => ∃ k : Nat, k ≤ n ∧ i = .int .i64 k ∧ Hid (OwnI w.heap.size wr u (tkI xs k)) ∧ Hid (Nx w wr)) (fun _ i _ => n - (intOf i).toNat)
  case atStart => exact ⟨0, Nat.zero_le _, rfl, ownI_none w.heap.size w (Nat.le_refl _), box1 _ _⟩
  obtain ⟨k, hkn, rfl, HO, HN⟩ := hrel
  by_cases hlt : k < n
  · obtain ⟨b, off, rfl, hB, hb, hc⟩ := hk (by omega)
    have c0 := cell_next HN.out hb (hc k hlt)
    have hlt' : (k : Int) < n := by omega
    have HLK : Hid ((tkI xs k).length = k) := tkI_len (by rw [HZ.out]; omega)
    have HES : Hid (tkI xs (k + 1) = tkI xs k ++ [iat xs k]) := tkI_succ (by rw [HZ.out]; exact hlt)
    obtain ⟨av, cv, hvs⟩ := HO.out.slice
    rw [HLK.out] at hvs
    subst hvs
    have HZ3 : Hid (w.heap.size ≤ wr.heap.size) := HN.out.size
    clear hc hk hk'
    generalize iat xs k = es at *
    go_wp2_with (at_builtin; refine wpList_append_own_at _ rfl _ _ 22 rfl w.heap.size 2 ii (.int .i64 0) 1 8 Tryz.underlying22 hi hz0 hz1 hz2 rfl (by decide) _ _ _ rfl (World.ownsRow.alloc HO.out _) ⟨wr.heap.size, 0, none⟩ 1 1 [.int .i64 es] rfl rfl (fun j u hj => new_cells wr _ _ _ rfl j u hj) ?c2 ?c3 ?c4 ?c5 ?_)
    case c2 => intro u hu; simp at hu; subst hu; rfl
    case c3 => rw [HLK.out]; unfold maxLen; omega
    case c4 => rw [HLK.out]; omega
    case c5 => have := HZ3.out; simp; omega
    intro v7 w7 hown hgrow _ _
    have HO7 : Hid (OwnI w.heap.size w7 v7 (tkI xs (k + 1))) := by unfold Hid; rw [HES.out]; exact OwnI.snoc hown
    have HN7 : Hid (Nx w w7) := Below.grown (HN.out.alloc _) hgrow (by have := HZ3.out; simp; omega) (fun g hg => (own_lt HO.out g hg).1)
    clear hown hgrow HO HN c0
    go_wp2
    go_roundw
    case rel => exact ⟨k + 1, by omega, by go_num, HO7, HN7⟩
    case measure => simp [intOf]; omega
  have ek : n = k := by omega
  subst ek
  have HO1 : Hid (OwnI w.heap.size wr u5 (xs ++ tkI ys 0)) := by
    have := HO.out
    rw [show tkI xs n = xs by rw [← HZ.out]; exact tkI_all xs] at this
    unfold Hid
    rw [show tkI ys 0 = [] from rfl, List.append_nil]
    exact this
  clear HO hlt hkn hk
  go_wp2
  go_loopw [5, 7] (fun u i wr => ∃ k : Nat, k ≤ n' ∧ i = .int .i64 k ∧ Hid (OwnI w.heap.size wr u (xs ++ tkI ys k)) ∧ Hid (Nx w wr)) (fun _ i _ => n' - (intOf i).toNat)
  case atStart => exact ⟨0, Nat.zero_le _, rfl, HO1, HN⟩
  clear HO1 HN
  obtain ⟨k, hkn, rfl, HO, HN⟩ := hrel
  by_cases hlt : k < n'
  · obtain ⟨b, off, rfl, hB, hb, hc⟩ := hk' (by omega)
    have c0 := cell_next HN.out hb (hc k hlt)
    have hlt' : (k : Int) < n' := by omega
    have HLK : Hid ((xs ++ tkI ys k).length = n + k) := by unfold Hid; rw [List.length_append, HZ.out, tkI_len (by rw [HZ'.out]; omega)]
    have HES : Hid (xs ++ tkI ys (k + 1) = (xs ++ tkI ys k) ++ [iat ys k]) := by unfold Hid; rw [tkI_succ (by rw [HZ'.out]; exact hlt), List.append_assoc]
    obtain ⟨av, cv, hvs⟩ := HO.out.slice
    rw [HLK.out] at hvs
    subst hvs
    have HZ3 : Hid (w.heap.size ≤ wr.heap.size) := HN.out.size
    clear hc hk'
    generalize iat ys k = es at *
    go_wp2_with (at_builtin; refine wpList_append_own_at _ rfl _ _ 22 rfl w.heap.size 2 ii (.int .i64 0) 1 8 Tryz.underlying22 hi hz0 hz1 hz2 rfl (by decide) _ _ _ rfl (World.ownsRow.alloc HO.out _) ⟨wr.heap.size, 0, none⟩ 1 1 [.int .i64 es] rfl rfl (fun j u hj => new_cells wr _ _ _ rfl j u hj) ?c2 ?c3 ?c4 ?c5 ?_)
    case c2 => intro u hu; simp at hu; subst hu; rfl
    case c3 => rw [HLK.out]; unfold maxLen; omega
    case c4 => rw [HLK.out]; omega
    case c5 => have := HZ3.out; simp; omega
    intro v7 w7 hown hgrow _ _
    have HO7 : Hid (OwnI w.heap.size w7 v7 (xs ++ tkI ys (k + 1))) := by unfold Hid; rw [HES.out]; exact OwnI.snoc (by rw [List.length_append]; exact hown)
    have HN7 : Hid (Nx w w7) := Below.grown (HN.out.alloc _) hgrow (by have := HZ3.out; simp; omega) (fun g hg => (own_lt HO.out g hg).1)
    clear hown hgrow HO HN c0
    go_wp2
    go_roundw
    case rel => exact ⟨k + 1, by omega, by go_num, HO7, HN7⟩
    case measure => simp [intOf]; omega
  have ek : n' = k := by omega
  subst ek
  have HF : Hid (OwnI w.heap.size wr u5 (xs ++ ys)) := by
    have := HO.out
    rw [show tkI ys n' = ys by rw [← HZ'.out]; exact tkI_all ys] at this
    exact this
  clear HO hlt hkn hk'
  go_wp2
  go_ret
  exact ⟨⟨_, rfl, HF.out⟩, HN.out⟩
/-- a slice's length is within its capacity -/
def CapOk (v : Value) : Prop := ∃ a n c, v = .slice a n c ∧ n ≤ c
theorem OwnI.capOk {B : Nat} {w : World} {v : Value} {zs : List Int} (h : OwnI B w v zs) : CapOk v := by
  rcases h.2 with ⟨rfl, _⟩ | ⟨g, cap, cur, rfl, _, _, hc, _⟩
  · exact ⟨_, _, _, rfl, Nat.le_refl _⟩
  · exact ⟨_, _, _, rfl, hc⟩
def wd (ws : List (List Int)) (i : Nat) : List Int := ws.getD i []
def HWords (B : Nat) (w : World) (v : Value) (ws : List (List Int)) : Prop :=
  HSlice B w v ws.length fun b off i => ∃ vi, w.cell? ⟨b, off + i, none⟩ = some vi ∧ HInts B w vi (wd ws i) ∧ CapOk vi
theorem HWords.keep {B : Nat} {w w' : World} {v : Value} {ws : List (List Int)} (h : HWords B w v ws) (k : Keeps B w w') : HWords B w' v ws :=
  HSlice.mono h (Nat.le_refl _) k.1 fun b off hb hs i hi hc => by
    obtain ⟨vi, h1, h2, h3⟩ := hc
    exact ⟨vi, (k.2 b hb hs _).trans h1, h2.keep k, h3⟩
theorem HWords.next {B : Nat} {w w' : World} {v : Value} {ws : List (List Int)} (h : HWords B w v ws) (k : Nx w w') : HWords B w' v ws := h.keep (k.keeps B)

theorem wd_snoc {ws : List (List Int)} {x : List Int} {i : Nat} (h : i < ws.length) : wd (ws ++ [x]) i = wd ws i := by
  simp [wd, List.getD, List.getElem?_append_left h]
theorem wd_end {ws : List (List Int)} {x : List Int} {i : Nat} (h : i = ws.length) : wd (ws ++ [x]) i = x := by
  subst h
  simp [wd, List.getD]

theorem infoWord : (Tryz.prog.info? 102).map (fun i => (i.zero, i.size, i.bytes)) = some (some (.agg #[.slice none 0 0]), 1, 24) := by kernel_rfl
/-- a row of words of our own -/
def vat (cs : List Value) (i : Nat) : Value := cs.getD i (.bool false)
def OwnW (C : Nat) (w : World) (v : Value) (ws : List (List Int)) : Prop :=
  ∃ cs : List Value, w.ownsRow C 102 1 v ws.length cs ∧ ∀ i, i < ws.length → OwnI C w (vat cs i) (wd ws i)
theorem own_ne {w : World} {B B' e e' size size' n n' : Nat} {v v' : Value} {xs xs' : List Value} (h : w.ownsRow B e size v n xs) (h' : w.ownsRow B' e' size' v' n' xs') (hne : e ≠ e') : v.ownBlock = none ∨ v.ownBlock ≠ v'.ownBlock := by
  rcases h.2 with ⟨rfl, _⟩ | ⟨g, cap, cur, rfl, _, hh, _⟩
  · exact Or.inl rfl
  · rcases h'.2 with ⟨rfl, _⟩ | ⟨g', cap', cur', rfl, _, hh', _⟩
    · exact Or.inr (by simp [Value.ownBlock])
    · refine Or.inr fun e1 => ?_
      simp [Value.ownBlock] at e1
      subst e1
      rw [hh] at hh'
      simp at hh'
      exact hne hh'.2
theorem OwnW.next {C : Nat} {w w' : World} {v : Value} {ws : List (List Int)} (h : OwnW C w v ws) (k : Nx w w') : OwnW C w' v ws := by
  obtain ⟨cs, h1, h2⟩ := h
  refine ⟨cs, ?_, fun i hi => (h2 i hi).next k⟩
  obtain ⟨h3, h4⟩ := h1
  refine ⟨h3, ?_⟩
  rcases h4 with h4 | ⟨g, cap, cur, hv, hg, hh, r⟩
  · exact Or.inl h4
  · exact Or.inr ⟨g, cap, cur, hv, hg, (k.block g (Array.getElem?_eq_some_iff.1 hh).1).trans hh, r⟩
theorem OwnW.slice {C : Nat} {w : World} {v : Value} {ws : List (List Int)} (h : OwnW C w v ws) : ∃ a c, v = .slice a ws.length c := by
  obtain ⟨cs, h1, _⟩ := h
  rcases h1.2 with ⟨rfl, h2⟩ | ⟨g, cap, cur, rfl, _⟩
  · exact ⟨none, 0, by rw [h2]⟩
  · exact ⟨_, _, rfl⟩
theorem OwnW.held {C : Nat} {w : World} {v : Value} {ws : List (List Int)} (h : OwnW C w v ws) : HWords C w v ws := by
  obtain ⟨cs, h1, h2⟩ := h
  obtain ⟨h3, h4⟩ := h1
  rw [Nat.mul_one] at h3
  rcases h4 with ⟨rfl, h4⟩ | ⟨g, cap, cur, rfl, hg, hh, hc, hm, hs, ht⟩
  · unfold HWords
    rw [h4]
    exact ⟨_, _, rfl, by simp [maxLen], fun h => by omega⟩
  · refine ⟨_, _, rfl, by omega, fun h0 => ⟨g, 0, rfl, hg, (Array.getElem?_eq_some_iff.1 hh).1, fun i hi => ⟨vat cs i, ?_, (h2 i hi).held, (h2 i hi).capOk⟩⟩⟩
    have e : (cur.toList.take (ws.length * 1))[i]? = cs[i]? := by rw [ht]
    rw [List.getElem?_take_of_lt (by omega), Array.getElem?_toList] at e
    show w.cell? ⟨g, 0 + i, none⟩ = _
    rw [Nat.zero_add]
    simp [World.cell?, hh, e, vat, List.getD, show i < cs.length by omega]
theorem OwnW.lt {C : Nat} {w : World} {v : Value} {ws : List (List Int)} (h : OwnW C w v ws) : ∀ g, v.ownBlock = some g → C ≤ g := by
  obtain ⟨cs, h1, _⟩ := h
  exact fun g hg => (own_lt h1 g hg).1
theorem ownW_none (B : Nat) (w : World) (h : B ≤ w.heap.size) : OwnW B (w.alloc (.cells #[] 102)) (.slice (some ⟨w.heap.size, 0, none⟩) 0 0) [] :=
  ⟨[], ⟨rfl, .inr ⟨w.heap.size, 0, #[], rfl, h, by show (w.heap.push _)[w.heap.size]? = _; simp, Nat.le_refl _, by simp [maxLen], by simp, by simp⟩⟩, fun i hi => absurd hi (Nat.not_lt_zero _)⟩
/-- one word more -/
theorem OwnW.snoc {C : Nat} {w w' : World} {v v' u : Value} {ws : List (List Int)} {x : List Int} {cs : List Value} (h1 : w.ownsRow C 102 1 v ws.length cs) (h2 : ∀ i, i < ws.length → OwnI C w (vat cs i) (wd ws i))
    (hu : OwnI C w u x) (ho : Obj) (hg : (w.alloc ho).grownBy w' v.ownBlock) (hn : w'.ownsRow C 102 1 v' (ws.length + 1) (cs ++ [u])) : OwnW C w' v' (ws ++ [x]) := by
  have hl : cs.length = ws.length := by have := h1.1; omega
  have hne : (2 : Nat) ≠ 3 := by decide
  have kept : ∀ {z : Value} {zs : List Int}, OwnI C w z zs → OwnI C w' z zs := fun {z zs} hz => World.ownsRow.kept (World.ownsRow.alloc hz ho) hg (own_ne hz h1 (by decide))
  refine ⟨cs ++ [u], by rw [List.length_append]; exact hn, fun i hi => ?_⟩
  rw [List.length_append, List.length_singleton] at hi
  by_cases e : i < ws.length
  · rw [wd_snoc e]
    have : vat (cs ++ [u]) i = vat cs i := by simp [vat, List.getD, List.getElem?_append_left (show i < cs.length by omega)]
    rw [this]
    exact kept (h2 i e)
  · have e' : i = ws.length := by omega
    rw [wd_end e']
    have : vat (cs ++ [u]) i = u := by rw [e', ← hl]; simp [vat, List.getD]
    rw [this]
    exact kept hu
end Go.Proofs.YtcdjmpbdaiafgaaGreatDoor

namespace Go.Proofs.YtcdjmpbdaiafgaaGreatDoor
open Go.RowKit
set_option linter.unusedVariables false
set_option maxRecDepth 100000

theorem cellq {w w' : World} (k : Nx w w') {b o : Nat} {v : Value} (h : w.cell? ⟨b, o, none⟩ = some v) : w'.cell? ⟨b, o, none⟩ = some v := cell_next k (cell_lt h) h
def wayIs (es : List Eg) (i : Int) (e : Nat) : Bool := decide ((eat es e).way = i)
/-- the edges of a way, below k -/
def ofTo (es : List Eg) (i : Int) (k : Nat) : List Nat := (List.range k).filter (wayIs es i)
theorem ofTo_yes {es : List Eg} {i : Int} {k : Nat} (h : (eat es k).way = i) : ofTo es i (k + 1) = ofTo es i k ++ [k] := by
  unfold ofTo
  rw [List.range_succ, List.filter_append]
  simp [wayIs, h]
theorem ofTo_no {es : List Eg} {i : Int} {k : Nat} (h : (eat es k).way ≠ i) : ofTo es i (k + 1) = ofTo es i k := by
  unfold ofTo
  rw [List.range_succ, List.filter_append]
  simp [wayIs, h]
theorem ofTo_len (es : List Eg) (i : Int) (k : Nat) : (ofTo es i k).length ≤ k := by
  unfold ofTo
  have := List.length_filter_le (wayIs es i) (List.range k)
  simpa using this
/-- edge numbers as the program has them -/
def nums (l : List Nat) : List Int := l.map fun e : Nat => (e : Int)
/-- each as a list of one -/
def ones (l : List Nat) : List (List Int) := l.map fun e : Nat => [(e : Int)]
theorem ones_snoc (l : List Nat) (k : Nat) : ones (l ++ [k]) = ones l ++ [[(k : Int)]] := by simp [ones]
theorem ones_len (l : List Nat) : (ones l).length = l.length := by simp [ones]
theorem ownI_one (B : Nat) (w : World) (z : Int) (h : B ≤ w.heap.size) : OwnI B (w.alloc (.cells #[.int .i64 z] 2)) (.slice (some ⟨w.heap.size, 0, none⟩) 1 1) [z] :=
  ⟨rfl, .inr ⟨w.heap.size, 1, #[.int .i64 z], rfl, h, by show (w.heap.push _)[w.heap.size]? = _; simp, Nat.le_refl _, by simp [maxLen], by simp, by simp [icells]⟩⟩
theorem OwnW.alloc {C : Nat} {w : World} {v : Value} {ws : List (List Int)} (h : OwnW C w v ws) (o : Obj) : OwnW C (w.alloc o) v ws := h.next (box1 _ _)

theorem OwnW.base {B B' : Nat} {w : World} {v : Value} {ws : List (List Int)} (h : OwnW B w v ws) (hB : B' ≤ B) : OwnW B' w v ws := by
  obtain ⟨cs, h1, h2⟩ := h
  refine ⟨cs, ?_, fun i hi => (h2 i hi).base hB⟩
  obtain ⟨h3, h4⟩ := h1
  refine ⟨h3, ?_⟩
  rcases h4 with h4 | ⟨g, cap, cur, hv, hg, r⟩
  · exact Or.inl h4
  · exact Or.inr ⟨g, cap, cur, hv, by omega, r⟩

set_option maxHeartbeats 4000000 in
theorem l2Of_any (B : Nat) (v0 v1 v2 v3 : Value) (R : Rd) (wi : Int) (w : World) (h0 : HRoad B w v0 v1 v2 v3 R) (hm : R.edges.length ≤ 4000) :
    Calls Tryz.prog 84 #[.agg #[v0, v1, v2, v3], .int .i64 wi] w fun e w' => (∃ u, e = .returned u ∧ OwnW w.heap.size w' u (ones (ofTo R.edges wi R.edges.length))) ∧ Nx w w' := by
  obtain ⟨ii, hi, hz0, hz1, hz2⟩ := info_parts infoWord
  obtain ⟨a, cap, rfl, hml, hk⟩ := h0.2.1
  clear h0
  generalize hes : R.edges = es at *
  clear hes
  generalize hz : es.length = m at *
  have HZ : Hid (es.length = m) := hz
  clear hz hml
  have HB0 : Hid (Blk (w.alloc (.cells #[v0, .slice a m cap, v2, v3] 60)) w.heap.size #[v0, .slice a m cap, v2, v3]) := Blk.new w _ _ _ rfl
  have HX0 : Hid (Nx w (w.alloc (.cells #[v0, .slice a m cap, v2, v3] 60))) := box1 _ _
  have HS0 : Hid ((w.alloc (.cells #[v0, .slice a m cap, v2, v3] 60)).heap.size = w.heap.size + 1) := size_alloc' _ _
  go_enter Tryz.func84, Tryz.ntmps84
  go_upto_region 1 with fail
  generalize w.alloc (.cells #[v0, .slice a m cap, v2, v3] 60) = w1 at *
  go_wp2
  go_loopw [5, 6] (fun u i wr => ∃ k : Nat, k ≤ m ∧ i = .int .i64 k ∧ Hid (OwnW w1.heap.size wr u (ones (ofTo es wi k))) ∧ Hid (Nx w1 wr)) (fun _ i _ => m - (intOf i).toNat)
  case atStart => exact ⟨0, Nat.zero_le _, rfl, ownW_none w1.heap.size w1 (Nat.le_refl _), box1 _ _⟩
  obtain ⟨k, hkm, rfl, HO, HN⟩ := hrel
  have BW := HB0.out.next HN.out
  have k1 := BW.cell (i := 1) rfl
  by_cases hlt : k < m
  · obtain ⟨b, off, rfl, hB, hb, hc⟩ := hk (by omega)
    obtain ⟨d0, d1, d2, d3, d4, d5, d6⟩ := hc k hlt
    have d3 := cell_next (HX0.out.trans HN.out) hb d3
    have hlt' : (k : Int) < m := by omega
    clear d0 d1 d2 d4 d5 d6 hc hk
    by_cases hw : (eat es k).way = wi
    · have g1 : ((eat es k).way == wi) = true := by simpa using hw
      have HES : Hid (ones (ofTo es wi (k + 1)) = ones (ofTo es wi k) ++ [[(k : Int)]]) := by unfold Hid; rw [ofTo_yes hw, ones_snoc]
      have HL : Hid ((ones (ofTo es wi k)).length ≤ 4000) := by unfold Hid; rw [ones_len]; have := ofTo_len es wi k; omega
      generalize ones (ofTo es wi k) = ws at *
      generalize (eat es k).way = wy at *
      have HO2 := HO.out.next (box1 wr (.cells #[.int .i64 (k : Int)] 2))
      obtain ⟨cs, hrow, hwords⟩ := HO2
      have HROW : Hid ((wr.alloc (.cells #[.int .i64 (k : Int)] 2)).ownsRow w1.heap.size 102 1 u5 ws.length cs) := hrow
      have HWD : Hid (∀ i, i < ws.length → OwnI w1.heap.size (wr.alloc (.cells #[.int .i64 (k : Int)] 2)) (vat cs i) (wd ws i)) := hwords
      have HZ3 : Hid (w1.heap.size ≤ wr.heap.size) := HN.out.size
      have HU : Hid (OwnI w1.heap.size (wr.alloc (.cells #[.int .i64 (k : Int)] 2)) (.slice (some ⟨wr.heap.size, 0, none⟩) 1 1) [(k : Int)]) := ownI_one _ _ _ HZ3.out
      have HX2 : Hid (Nx w1 (wr.alloc (.cells #[.int .i64 (k : Int)] 2))) := HN.out.trans (box1 _ _)
      have HS2 : Hid ((wr.alloc (.cells #[.int .i64 (k : Int)] 2)).heap.size = wr.heap.size + 1) := size_alloc' _ _
      obtain ⟨av, cv, hvs⟩ := HO.out.slice
      subst hvs
      generalize hwl : ws.length = wl at *
      have HWL : Hid (ws.length = wl) := hwl
      have hwl4 : wl ≤ 4000 := HL.out
      clear hrow hwords hw hwl
      go_wp2_with (at_builtin; refine wpList_append_own_at _ rfl _ _ 97 rfl w1.heap.size 102 ii (.agg #[.slice none 0 0]) 1 24 Tryz.underlying97 hi hz0 hz1 hz2 rfl (by decide) _ _ _ rfl (World.ownsRow.alloc HROW.out _) ⟨wr.heap.size + 1, 0, none⟩ 1 1 [.slice (some ⟨wr.heap.size, 0, none⟩) 1 1] rfl rfl ?c1 ?c2 ?c3 ?c4 ?c5 ?_)
      case c1 => intro j u hj; rw [← HS2.out]; exact new_cells _ _ _ _ rfl j u hj
      case c2 => intro u hu; simp at hu; subst hu; rfl
      case c3 => unfold maxLen; omega
      case c4 => omega
      case c5 => rw [size_alloc']; have := HX2.out.size; omega
      intro v7 w7 hown hgrow _ _
      have HO7 : Hid (OwnW w1.heap.size w7 v7 (ones (ofTo es wi (k + 1)))) := by unfold Hid; rw [HES.out]; exact OwnW.snoc (by rw [HWL.out]; exact HROW.out) (fun i hi => HWD.out i (by rw [← HWL.out]; exact hi)) HU.out _ hgrow (by rw [HWL.out]; exact hown)
      have HN7 : Hid (Nx w1 w7) := Below.grown (HX2.out.alloc _) hgrow (by rw [size_alloc']; have := HX2.out.size; omega) (fun g hg => (own_lt HROW.out g hg).1)
      clear hown hgrow HO HN k1 d3 BW
      go_wp2
      go_roundw
      case rel => exact ⟨k + 1, by omega, by go_num, HO7, HN7⟩
      case measure => simp [intOf]; omega
    · have g1 : ((eat es k).way == wi) = false := by simpa using hw
      have HES : Hid (ofTo es wi (k + 1) = ofTo es wi k) := ofTo_no hw
      generalize (eat es k).way = wy at *
      clear hw
      go_wp2
      go_roundw
      case rel => exact ⟨k + 1, by omega, by go_num, by unfold Hid; rw [HES.out]; exact HO.out, HN⟩
      case measure => simp [intOf]; omega
  have ek : m = k := by omega
  subst ek
  have HF : Hid (OwnW w1.heap.size wr u5 (ones (ofTo es wi m))) := HO.out
  clear HO hlt hkm hk
  go_wp2
  go_ret
  refine ⟨⟨_, rfl, ?_⟩, HX0.out.trans HN.out⟩
  exact HF.out.base HX0.out.size
end Go.Proofs.YtcdjmpbdaiafgaaGreatDoor

namespace Go.Proofs.YtcdjmpbdaiafgaaGreatDoor
open Go.RowKit
set_option linter.unusedVariables false
set_option maxRecDepth 100000

/-- a way's edges below k: there, and back in turned order -/
def thTo (es : List Eg) (i : Int) (k : Nat) : List Nat := (List.range k).filter fun e => wayIs es i e && !(eat es e).back
def bkTo (es : List Eg) (i : Int) (k : Nat) : List Nat := ((List.range k).filter fun e => wayIs es i e && (eat es e).back).reverse
theorem thTo_yes {es : List Eg} {i : Int} {k : Nat} (h : (eat es k).way = i) (hb : (eat es k).back = false) : thTo es i (k + 1) = thTo es i k ++ [k] := by
  unfold thTo; rw [List.range_succ, List.filter_append]; simp [wayIs, h, hb]
theorem thTo_back {es : List Eg} {i : Int} {k : Nat} (hb : (eat es k).back = true) : thTo es i (k + 1) = thTo es i k := by
  unfold thTo; rw [List.range_succ, List.filter_append]; simp [hb]
theorem thTo_no {es : List Eg} {i : Int} {k : Nat} (h : (eat es k).way ≠ i) : thTo es i (k + 1) = thTo es i k := by
  unfold thTo; rw [List.range_succ, List.filter_append]; simp [wayIs, h]
theorem bkTo_yes {es : List Eg} {i : Int} {k : Nat} (h : (eat es k).way = i) (hb : (eat es k).back = true) : bkTo es i (k + 1) = k :: bkTo es i k := by
  unfold bkTo; rw [List.range_succ, List.filter_append]; simp [wayIs, h, hb]
theorem bkTo_there {es : List Eg} {i : Int} {k : Nat} (hb : (eat es k).back = false) : bkTo es i (k + 1) = bkTo es i k := by
  unfold bkTo; rw [List.range_succ, List.filter_append]; simp [hb]
theorem bkTo_no {es : List Eg} {i : Int} {k : Nat} (h : (eat es k).way ≠ i) : bkTo es i (k + 1) = bkTo es i k := by
  unfold bkTo; rw [List.range_succ, List.filter_append]; simp [wayIs, h]
theorem thTo_len (es : List Eg) (i : Int) (k : Nat) : (nums (thTo es i k)).length ≤ k := by
  unfold thTo nums
  have := List.length_filter_le (fun e => wayIs es i e && !(eat es e).back) (List.range k)
  simpa using this
theorem bkTo_len (es : List Eg) (i : Int) (k : Nat) : (nums (bkTo es i k)).length ≤ k := by
  unfold bkTo nums
  have := List.length_filter_le (fun e => wayIs es i e && (eat es e).back) (List.range k)
  simpa using this
/-- the traversals of a way -/
def travs (N : Nt) (es : List Eg) (i : Nat) : List (List Nat) := [thTo es i es.length] ++ (if (wat N.ways i).both then [bkTo es i es.length] else [])
theorem nums_snoc (l : List Nat) (k : Nat) : nums (l ++ [k]) = nums l ++ [(k : Int)] := by simp [nums]
theorem ownI_nil (B : Nat) (w : World) (h : B ≤ w.heap.size) : OwnI B (w.alloc (.cells #[] 2)) (.slice (some ⟨w.heap.size, 0, none⟩) 0 0) (nums []) := ownI_none B w h
theorem ownW_one {B : Nat} {w : World} {u : Value} {x : List Int} (hB : B ≤ w.heap.size) (h : OwnI B w u x) : OwnW B (w.alloc (.cells #[u] 102)) (.slice (some ⟨w.heap.size, 0, none⟩) 1 1) [x] :=
  ⟨[u], ⟨rfl, .inr ⟨w.heap.size, 1, #[u], rfl, hB, by show (w.heap.push _)[w.heap.size]? = _; simp, Nat.le_refl _, by simp [maxLen], by simp, by simp⟩⟩, fun i hi => by
    have : i = 0 := by simpa using hi
    subst this
    exact h.next (box1 _ _)⟩

set_option maxHeartbeats 8000000 in
theorem l2Traversals_any (B0 B : Nat) (n0 n1 n2 n3 : Value) (N : Nt) (v0 v1 v2 v3 : Value) (R : Rd) (wi : Nat) (w : World) (hN : HNet B0 w n0 n1 n2 n3 N) (h0 : HRoad B w v0 v1 v2 v3 R) (hm : R.edges.length ≤ 4000) (hwi : wi < N.ways.length) :
    Calls Tryz.prog 86 #[.agg #[n0, n1, n2, n3, .int .i64 N.uturn], .agg #[v0, v1, v2, v3], .int .i64 (wi : Int)] w fun e w' => (∃ u, e = .returned u ∧ OwnW w.heap.size w' u ((travs N R.edges wi).map nums)) ∧ Nx w w' := by
  obtain ⟨ii, hi, hz0, hz1, hz2⟩ := info_parts infoWord
  obtain ⟨a, cap, rfl, hml, hk⟩ := h0.2.1
  obtain ⟨aw, capw, rfl, hmw, hkw⟩ := hN.2.1
  unfold maxLen at hmw
  have HTR : Hid ((travs N R.edges wi).map nums = [nums (thTo R.edges wi R.edges.length)] ++ (if (wat N.ways wi).both then [nums (bkTo R.edges wi R.edges.length)] else [])) := by
    unfold Hid travs
    rw [List.map_append]
    congr 1
    split <;> rfl
  obtain ⟨bw, ow, haw, hBw, hbw, hcw⟩ := hkw (by omega)
  obtain ⟨vn, vw, wd0, wd1, wd2, wd3, wd4⟩ := hcw wi hwi
  have HW1 : Hid (w.cell? ⟨bw, ow + wi * 4 + 1, none⟩ = some (.bool (wat N.ways wi).both)) := wd1
  have HBW : Hid (bw < w.heap.size) := hbw
  subst haw
  clear h0 hN hkw hcw wd4 wd0 wd1 wd2 wd3 vn vw
  generalize hes : R.edges = es at *
  clear hes
  generalize hz : es.length = m at *
  have HZ : Hid (es.length = m) := hz
  clear hz hml
  generalize hzw : N.ways.length = nw at *
  clear hzw
  generalize (wat N.ways wi).both = both at *
  generalize hW1 : (w.alloc (.cells #[n0, .slice (some ⟨bw, ow, none⟩) nw capw, n2, n3, .int .i64 N.uturn] 38)).alloc (.cells #[v0, .slice a m cap, v2, v3] 60) = w1
  have HB0 : Hid (Blk w1 (w.heap.size + 1) #[v0, .slice a m cap, v2, v3]) := by unfold Hid; rw [← hW1]; exact Blk.new _ _ _ _ (by rw [size_alloc'])
  have HBN : Hid (Blk w1 w.heap.size #[n0, .slice (some ⟨bw, ow, none⟩) nw capw, n2, n3, .int .i64 N.uturn]) := by unfold Hid; rw [← hW1]; exact (Blk.new w _ _ _ rfl).alloc _
  have HX0 : Hid (Nx w w1) := by unfold Hid; rw [← hW1]; exact box2 _ _ _
  go_enter Tryz.func86, Tryz.ntmps86
  go_upto_region 1 with fail
  clear hW1
  go_wp2
  go_loopw [7, 8, 9] (fun ut ub i wr => ∃ k : Nat, k ≤ m ∧ i = .int .i64 k ∧ Hid (OwnI w1.heap.size wr ut (nums (thTo es wi k))) ∧ Hid (OwnI w1.heap.size wr ub (nums (bkTo es wi k))) ∧ Hid (Nx w1 wr)) (fun _ _ i _ => m - (intOf i).toNat)
  case atStart => exact ⟨0, Nat.zero_le _, rfl, OwnI.next (ownI_nil w1.heap.size w1 (Nat.le_refl _)) (box1 _ _), by have := ownI_nil w1.heap.size (w1.alloc (.cells #[] 2)) (by rw [size_alloc']; omega); rw [size_alloc'] at this; exact this, box2 _ _ _⟩
  obtain ⟨k, hkm, rfl, HT, HK, HN⟩ := hrel
  have BW := HB0.out.next HN.out
  have k1 := BW.cell (i := 1) rfl
  by_cases hlt : k < m
  · obtain ⟨b, off, rfl, hB, hb, hc⟩ := hk (by omega)
    obtain ⟨d0, d1, d2, d3, d4, d5, d6⟩ := hc k hlt
    have d3 := cell_next (HX0.out.trans HN.out) hb d3
    have d5 := cell_next (HX0.out.trans HN.out) hb d5
    have hlt' : (k : Int) < m := by omega
    clear d0 d1 d2 d4 d6 hc hk
    have HLT : Hid ((nums (thTo es wi k)).length ≤ 4000) := by unfold Hid; have := thTo_len es wi k; omega
    have HLB : Hid ((nums (bkTo es wi k)).length ≤ 4000) := by unfold Hid; have := bkTo_len es wi k; omega
    by_cases hw : (eat es k).way = wi
    · have g1 : ((eat es k).way == (wi : Int)) = true := by simpa using hw
      have HU : Hid (OwnI w1.heap.size (wr.alloc (.cells #[.int .i64 (k : Int)] 2)) (.slice (some ⟨wr.heap.size, 0, none⟩) 1 1) [(k : Int)]) := ownI_one _ _ _ HN.out.size
      have HX2 : Hid (Nx wr (wr.alloc (.cells #[.int .i64 (k : Int)] 2))) := box1 _ _
      cases hbk : (eat es k).back
      · have HE1 : Hid (nums (thTo es wi (k + 1)) = nums (thTo es wi k) ++ [(k : Int)]) := by unfold Hid; rw [thTo_yes hw hbk, nums_snoc]
        have HE2 : Hid (bkTo es wi (k + 1) = bkTo es wi k) := bkTo_there hbk
        rw [hbk] at d5
        generalize (eat es k).way = wy at *
        clear hw hbk
        go_wp2_with fail
        refine (l2Plus_any w1.heap.size w1.heap.size _ _ (nums (thTo es wi k)) [(k : Int)] _ (by exact (HT.out.next HX2.out).held) (by exact HU.out.held) (by have := HLT.out; omega) (by simp)).mono ?_
        rintro e w4 ⟨⟨u, rfl, hO⟩, hx⟩
        have HN4 : Hid (Nx w1 w4) := (HN.out.trans HX2.out).trans hx
        have HT4 : Hid (OwnI w1.heap.size w4 u (nums (thTo es wi (k + 1)))) := by unfold Hid; rw [HE1.out]; exact hO.base (HN.out.trans HX2.out).size
        have HK4 : Hid (OwnI w1.heap.size w4 u8 (nums (bkTo es wi (k + 1)))) := by unfold Hid; rw [HE2.out]; exact (HK.out.next HX2.out).next hx
        clear hO hx k1 d3 d5 BW HT HK HN
        go_wp2
        go_roundw
        case rel => exact ⟨k + 1, by omega, by go_num, HT4, HK4, HN4⟩
        case measure => simp [intOf]; omega
      · have HE1 : Hid (thTo es wi (k + 1) = thTo es wi k) := thTo_back hbk
        have HE2 : Hid (nums (bkTo es wi (k + 1)) = [(k : Int)] ++ nums (bkTo es wi k)) := by unfold Hid; rw [bkTo_yes hw hbk]; rfl
        rw [hbk] at d5
        generalize (eat es k).way = wy at *
        clear hw hbk
        go_wp2_with fail
        refine (l2Plus_any w1.heap.size w1.heap.size _ _ [(k : Int)] (nums (bkTo es wi k)) _ (by exact HU.out.held) (by exact (HK.out.next HX2.out).held) (by simp) (by have := HLB.out; omega)).mono ?_
        rintro e w4 ⟨⟨u, rfl, hO⟩, hx⟩
        have HN4 : Hid (Nx w1 w4) := (HN.out.trans HX2.out).trans hx
        have HK4 : Hid (OwnI w1.heap.size w4 u (nums (bkTo es wi (k + 1)))) := by unfold Hid; rw [HE2.out]; exact hO.base (HN.out.trans HX2.out).size
        have HT4 : Hid (OwnI w1.heap.size w4 u7 (nums (thTo es wi (k + 1)))) := by unfold Hid; rw [HE1.out]; exact (HT.out.next HX2.out).next hx
        clear hO hx k1 d3 d5 BW HT HK HN
        go_wp2
        go_roundw
        case rel => exact ⟨k + 1, by omega, by go_num, HT4, HK4, HN4⟩
        case measure => simp [intOf]; omega
    · have g1 : ((eat es k).way == (wi : Int)) = false := by simpa using hw
      have HE1 : Hid (thTo es wi (k + 1) = thTo es wi k) := thTo_no hw
      have HE2 : Hid (bkTo es wi (k + 1) = bkTo es wi k) := bkTo_no hw
      generalize (eat es k).way = wy at *
      clear hw
      go_wp2
      go_roundw
      case rel => exact ⟨k + 1, by omega, by go_num, by unfold Hid; rw [HE1.out]; exact HT.out, by unfold Hid; rw [HE2.out]; exact HK.out, HN⟩
      case measure => simp [intOf]; omega
  have ek : m = k := by omega
  subst ek
  obtain ⟨a7, c7, e7⟩ := HT.out.slice
  obtain ⟨a8, c8, e8⟩ := HK.out.slice
  generalize (nums (thTo es wi m)).length = n7 at e7
  generalize (nums (bkTo es wi m)).length = n8 at e8
  subst e7 e8
  have c1 := (HBN.out.next HN.out).cell (i := 1) rfl
  have c2 := cell_next (HX0.out.trans HN.out) HBW.out HW1.out
  have hwi' : (wi : Int) < nw := by omega
  have HO1 : Hid (OwnW w1.heap.size (wr.alloc (.cells #[(.slice a7 n7 c7)] 102)) (.slice (some ⟨wr.heap.size, 0, none⟩) 1 1) [nums (thTo es wi m)]) := ownW_one HN.out.size HT.out
  have HX1 : Hid (Nx w1 (wr.alloc (.cells #[(.slice a7 n7 c7)] 102))) := HN.out.trans (box1 _ _)
  have HK1 : Hid (OwnI w1.heap.size (wr.alloc (.cells #[(.slice a7 n7 c7)] 102)) (.slice a8 n8 c8) (nums (bkTo es wi m))) := HK.out.next (box1 _ _)
  have HS1 : Hid ((wr.alloc (.cells #[(.slice a7 n7 c7)] 102)).heap.size = wr.heap.size + 1) := size_alloc' _ _
  have c1a := cellq (box1 wr (.cells #[(.slice a7 n7 c7)] 102)) c1
  have c2a := cellq (box1 wr (.cells #[(.slice a7 n7 c7)] 102)) c2
  clear hlt hkm hk BW HT HK
  cases both
  · have HF : Hid ((travs N es wi).map nums = [nums (thTo es wi m)]) := by unfold Hid; rw [HTR.out]; simp
    go_wp2
    go_ret
    refine ⟨⟨_, rfl, ?_⟩, HX0.out.trans HX1.out⟩
    rw [HF.out]
    exact HO1.out.base HX0.out.size
  · have HF : Hid ((travs N es wi).map nums = [nums (thTo es wi m)] ++ [nums (bkTo es wi m)]) := by unfold Hid; rw [HTR.out]; simp
    obtain ⟨cs, hrow, hwords⟩ := HO1.out
    have HROW : Hid ((wr.alloc (.cells #[(.slice a7 n7 c7)] 102)).ownsRow w1.heap.size 102 1 (.slice (some ⟨wr.heap.size, 0, none⟩) 1 1) 1 cs) := hrow
    have HWD : Hid (∀ i, i < 1 → OwnI w1.heap.size (wr.alloc (.cells #[(.slice a7 n7 c7)] 102)) (vat cs i) (wd [nums (thTo es wi m)] i)) := hwords
    clear hrow hwords
    go_wp2_with (at_builtin; refine wpList_append_own_at _ rfl _ _ 97 rfl w1.heap.size 102 ii (.agg #[.slice none 0 0]) 1 24 Tryz.underlying97 hi hz0 hz1 hz2 rfl (by decide) _ _ _ rfl (World.ownsRow.alloc HROW.out _) ⟨wr.heap.size + 1, 0, none⟩ 1 1 [.slice a8 n8 c8] rfl rfl ?e1 ?e2 ?e3 ?e4 ?e5 ?_)
    case e2 => rfl
    case e3 => unfold maxLen; omega
    case e5 => have := HX1.out.size; have := HS1.out; omega
    intro v7 w7 hown hgrow _ _
    have HO7 : Hid (OwnW w1.heap.size w7 v7 ([nums (thTo es wi m)] ++ [nums (bkTo es wi m)])) := OwnW.snoc (ws := [nums (thTo es wi m)]) HROW.out (fun i hi => HWD.out i (by simpa using hi)) HK1.out _ hgrow hown
    have HN7 : Hid (Nx w1 w7) := Below.grown (HX1.out.alloc _) hgrow (by rw [size_alloc']; have := HX1.out.size; omega) (fun g hg => (own_lt HROW.out g hg).1)
    clear hown hgrow
    go_wp2
    go_ret
    refine ⟨⟨_, rfl, ?_⟩, HX0.out.trans HN7.out⟩
    rw [HF.out]
    exact HO7.out.base HX0.out.size
end Go.Proofs.YtcdjmpbdaiafgaaGreatDoor

namespace Go.Proofs.YtcdjmpbdaiafgaaGreatDoor
open Go.RowKit
set_option linter.unusedVariables false
set_option maxRecDepth 100000

/-- an own row grows, as one step of a region that draws -/
theorem step_append_at {P : Program} {ops : Array Oper} {o : Oper} {a : Act} {w : World} {K : Act → World → Prop} {Q : Exit → Act → World → Prop} {E : Prop}
    (hg : o.guard = none) (s x : Operand) (t : TypeId) (hop : o.op = Op.call { callee := Callee.builtin Builtin.append, args := #[s, x], argTypes := #[t, t] })
    (e : TypeId) (i : TypeInfo) (z : Value) (size bytes : Nat) (h1 : P.underlying t = some (.slice e)) (h2 : P.info? e = some i) (h3 : i.zero = some z) (h4 : i.size = size) (h5 : i.bytes = bytes) (h6 : z.cells.size = size) (h7 : 0 < size)
    (B : Nat) (v : Value) (n : Nat) (olds : List Value) (hs : a.eval s = v) (hown : w.ownsRow B e size v n olds)
    (ad : Addr) (m c : Nat) (news : List Value) (hx : a.eval x = .slice (some ad) m c) (hn : news.length = m * size) (hc : ∀ j u, news[j]? = some u → w.cell? (ad.add j) = some u) (h1c : ∀ u ∈ news, u.oneCell' = true)
    (b1 : n + m ≤ maxLen) (b2 : (n + m) * bytes ≤ 140737488355328) (hB : B ≤ w.heap.size)
    (hK : ∀ v' w', w'.ownsRow B e size v' (n + m) (olds ++ news) → w.grownBy w' v.ownBlock → (v'.ownBlock = v.ownBlock ∨ v'.ownBlock = some w.heap.size) → K (a.put o.dst v') w') :
    if Region.wanted o (yielded ops a.tmps) = true then Oper.wp P o a w K Q else E := by
  have hw : Region.wanted o (yielded ops a.tmps) = true := by simp [Region.wanted, hg]
  rw [if_pos hw]
  obtain ⟨v', w', hrun, r1, r2, _, r4⟩ := run_append_own_at (P := P) w B t o.type e i z size bytes h1 h2 h3 h4 h5 h6 h7 v n olds hown ad m c news hn hc h1c b1 b2 hB
  unfold Oper.wp
  simp [execOp, hop, resolve, invoke, builtin, hs, hx, hrun, Result.andThen]
  exact hK v' w' r1 r2 r4

def lsat (ls : List (List Nat)) (i : Nat) : List Nat := ls.getD i []
theorem lsat_mem {ls : List (List Nat)} {i : Nat} (h : i < ls.length) : lsat ls i ∈ ls := by
  simp only [lsat, List.getD_eq_getElem?_getD, List.getElem?_eq_getElem h]
  exact List.getElem_mem h
theorem wd_nums {ls : List (List Nat)} {i : Nat} (h : i < ls.length) : wd (ls.map nums) i = nums (lsat ls i) := by
  simp [wd, lsat, List.getD_eq_getElem?_getD, h]
theorem take_lsat {ls : List (List Nat)} {i : Nat} (h : i < ls.length) : ls.take (i + 1) = ls.take i ++ [lsat ls i] := by
  rw [List.take_succ_eq_append_getElem h]
  simp [lsat, List.getD_eq_getElem?_getD, h]
/-- what has come when i lists are done and j pieces are put to the next -/
def growTo (es : List Eg) (ls ps : List (List Nat)) (i j : Nat) : List (List Nat) := growL es (ls.take i) ps ++ growL es [lsat ls i] (ps.take j)
theorem growTo_zero (es : List Eg) (ls ps : List (List Nat)) (i : Nat) : growTo es ls ps i 0 = growL es (ls.take i) ps := by simp [growTo, growL]
theorem growTo_yes {es : List Eg} {ls ps : List (List Nat)} {i j : Nat} (hj : j < ps.length) (h : hdL es (lsat ls i) = tlL es (lsat ps j)) : growTo es ls ps i (j + 1) = growTo es ls ps i j ++ [lsat ls i ++ lsat ps j] := by
  unfold growTo
  rw [take_lsat hj, List.append_assoc]
  simp [growL, h]
theorem growTo_no {es : List Eg} {ls ps : List (List Nat)} {i j : Nat} (hj : j < ps.length) (h : hdL es (lsat ls i) ≠ tlL es (lsat ps j)) : growTo es ls ps i (j + 1) = growTo es ls ps i j := by
  unfold growTo
  rw [take_lsat hj]
  simp [growL, h]
theorem growTo_end {es : List Eg} {ls ps : List (List Nat)} {i : Nat} (hi : i < ls.length) : growTo es ls ps i ps.length = growTo es ls ps (i + 1) 0 := by
  rw [growTo_zero, take_lsat hi, growL_app]
  unfold growTo
  rw [List.take_length]
theorem growL_len (es : List Eg) (ls ps : List (List Nat)) : (growL es ls ps).length ≤ ls.length * ps.length := by
  induction ls with
  | nil => simp [growL]
  | cons l ls ih =>
    rw [show l :: ls = [l] ++ ls from rfl, growL_app, List.length_append, List.length_append, Nat.add_mul]
    have : (growL es [l] ps).length ≤ ps.length := by
      simp only [growL, List.flatMap_cons, List.flatMap_nil, List.append_nil, List.length_map]
      exact List.length_filter_le _ _
    simp only [List.length_cons, List.length_nil]
    omega
theorem growTo_len (es : List Eg) {ls ps : List (List Nat)} {i j : Nat} (hi : i < ls.length) (hj : j ≤ ps.length) : (growTo es ls ps i j).length ≤ ls.length * ps.length := by
  unfold growTo
  rw [List.length_append]
  have h1 := growL_len es (ls.take i) ps
  have h2 := growL_len es [lsat ls i] (ps.take j)
  rw [List.length_take, Nat.min_eq_left (by omega)] at h1
  rw [List.length_take, Nat.min_eq_left (by omega), List.length_singleton, Nat.one_mul] at h2
  have h3 : (i + 1) * ps.length ≤ ls.length * ps.length := Nat.mul_le_mul_right _ hi
  rw [Nat.add_mul] at h3
  omega
/-- a list of edges as it should be -/
def goodL (m : Nat) (l : List Nat) : Prop := l ≠ [] ∧ l.length ≤ 100000 ∧ ∀ e ∈ l, e < m
theorem nums_len (l : List Nat) : (nums l).length = l.length := by simp [nums]
theorem nums_app (l p : List Nat) : nums (l ++ p) = nums l ++ nums p := by simp [nums]
theorem iat_last {l : List Nat} (h : l ≠ []) : iat (nums l) (l.length - 1) = ((l.getLastD 0 : Nat) : Int) := by
  have hp : 0 < l.length := List.length_pos_iff.2 h
  rw [iat_eq (by rw [nums_len]; omega)]
  simp only [nums, List.getElem_map]
  rw [List.getLastD_eq_getLast?, List.getLast?_eq_getElem?, List.getElem?_eq_getElem (by omega)]
  rfl
theorem iat_first {l : List Nat} (h : l ≠ []) : iat (nums l) 0 = ((l.headD 0 : Nat) : Int) := by
  cases l with
  | nil => exact absurd rfl h
  | cons a l => rfl
theorem last_lt {m : Nat} {l : List Nat} (h : goodL m l) : l.getLastD 0 < m := by
  refine h.2.2 _ ?_
  rw [List.getLastD_eq_getLast?]
  cases e : l.getLast? with
  | none => exact absurd (List.getLast?_eq_none_iff.1 e) h.1
  | some x => exact List.mem_of_getLast? e
theorem head_lt {m : Nat} {l : List Nat} (h : goodL m l) : l.headD 0 < m := by
  cases l with
  | nil => exact absurd rfl h.1
  | cons a l => exact h.2.2 a (by simp)
theorem HWords.at' {B : Nat} {w : World} {v : Value} {ws : List (List Int)} (h : HWords B w v ws) {i : Nat} (hi : i < ws.length) : ∃ b off c, v = .slice (some ⟨b, off, none⟩) ws.length c ∧ b < w.heap.size ∧ ∃ vi, w.cell? ⟨b, off + i, none⟩ = some vi ∧ HInts B w vi (wd ws i) ∧ CapOk vi := by
  obtain ⟨a, cap, e, _, hk⟩ := h
  obtain ⟨b, off, rfl, _, hb, hc⟩ := hk (by omega)
  exact ⟨b, off, cap, e, hb, hc i hi⟩
end Go.Proofs.YtcdjmpbdaiafgaaGreatDoor
