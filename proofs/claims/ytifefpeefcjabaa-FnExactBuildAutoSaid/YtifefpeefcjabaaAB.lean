import Derived.Test.YtifefpeefcjabaaAA
namespace Go.Proofs.Ytifefpeefcjabaa
open Go.RowKit
set_option linter.unusedVariables false
set_option maxRecDepth 100000

def lexB : List Int → List Int → Bool
  | x :: a, y :: b => if x = y then lexB a b else decide (x < y)
  | _, _ => false
/-- shorter, or xs long and smaller at the first difference -/
def befB (a b : List Int) : Bool := if a.length = b.length then lexB a b else decide (a.length < b.length)
def agTo (a b : List Int) (k : Nat) : Prop := ∀ i, i < k → iat a i = iat b i
theorem agTo_zero (a b : List Int) : agTo a b 0 := fun i hi => absurd hi (Nat.not_lt_zero _)
theorem agTo_succ {a b : List Int} {k : Nat} (h : agTo a b k) (hk : iat a k = iat b k) : agTo a b (k + 1) := by
  intro i hi
  rcases Nat.lt_succ_iff_lt_or_eq.1 hi with h1 | rfl
  · exact h i h1
  · exact hk
theorem iat_cons (x : Int) (a : List Int) (i : Nat) : iat (x :: a) (i + 1) = iat a i := by simp [iat, List.getD]
theorem iat_head (x : Int) (a : List Int) : iat (x :: a) 0 = x := by simp [iat, List.getD]
theorem lex_at {a b : List Int} {k : Nat} (h : agTo a b k) (ha : k < a.length) (hb : k < b.length) (hk : iat a k ≠ iat b k) : lexB a b = decide (iat a k < iat b k) := by
  induction k generalizing a b with
  | zero =>
    match a, b, ha, hb with
    | x :: a, y :: b, _, _ =>
      rw [iat_head, iat_head] at hk ⊢
      rw [lexB, if_neg hk]
  | succ k ih =>
    match a, b, ha, hb with
    | x :: a, y :: b, ha, hb =>
      have h0 := h 0 (Nat.succ_pos _)
      rw [iat_head, iat_head] at h0
      rw [iat_cons, iat_cons] at hk ⊢
      rw [lexB, if_pos h0]
      exact ih (fun i hi => by have := h (i + 1) (by omega); rwa [iat_cons, iat_cons] at this) (by simpa using ha) (by simpa using hb) hk
theorem ag_all {a b : List Int} (h : agTo a b a.length) (hl : a.length = b.length) : a = b := by
  apply List.ext_getElem hl
  intro i h1 h2
  have := h i h1
  rwa [iat_eq h1, iat_eq h2] at this
theorem lex_self (a : List Int) : lexB a a = false := by
  induction a with
  | nil => rfl
  | cons x a ih => rw [lexB, if_pos rfl]; exact ih

set_option maxHeartbeats 1000000 in
theorem l2Same_any (B B' : Nat) (v v' : Value) (xs ys : List Int) (w : World) (h0 : HInts B w v xs) (h1 : HInts B' w v' ys) :
    Calls Try.prog 52 #[v, v'] w fun e w' => e = .returned (.bool (decide (xs = ys))) ∧ Nx w w' := by
  obtain ⟨a, cap, rfl, hn, hk⟩ := h0
  obtain ⟨a', cap', rfl, hn', hk'⟩ := h1
  unfold maxLen at hn hn'
  generalize hz : xs.length = n at *
  have HZ : Hid (xs.length = n) := hz
  clear hz
  generalize hz : ys.length = n' at *
  have HZ' : Hid (ys.length = n') := hz
  clear hz
  by_cases hl : n = n'
  case neg =>
    have hd : ((n : Int) != (n' : Int)) = true := by simp; omega
    have HF : Hid (false = decide (xs = ys)) := by
      unfold Hid
      symm
      rw [decide_eq_false_iff_not]
      intro e
      apply hl
      rw [← HZ.out, ← HZ'.out, e]
    clear hl
    go_enter Try.func52, Try.ntmps52
    go_wp2
    go_ret
    exact ⟨ret_bool HF.out, Nx.refl _⟩
  subst hl
  have hd : ((n : Int) != (n : Int)) = false := by simp
  go_enter Try.func52, Try.ntmps52
  go_wp2
  go_loopw [5] (fun i wr => ∃ k : Nat, k ≤ n ∧ i = .int .i64 k ∧ Hid (agTo xs ys k) ∧ Hid (Nx w wr)) (fun i _ => n - (intOf i).toNat)
  case atStart => exact ⟨0, Nat.zero_le _, rfl, agTo_zero _ _, Nx.refl _⟩
  obtain ⟨k, hkn, rfl, HA, HN⟩ := hrel
  by_cases hlt : k < n
  · obtain ⟨b, off, rfl, hB, hb, hc⟩ := hk (by omega)
    obtain ⟨b', off', rfl, hB', hb', hc'⟩ := hk' (by omega)
    have c0 := cell_next HN.out hb (hc k hlt)
    have c1 := cell_next HN.out hb' (hc' k hlt)
    have hlt' : (k : Int) < n := by omega
    clear hc hk hc' hk'
    by_cases he : iat xs k = iat ys k
    · have he' : (iat xs k != iat ys k) = false := by simpa using he
      have HA' : Hid (agTo xs ys (k + 1)) := agTo_succ HA.out he
      clear he
      go_wp2
      go_quiet (fail)
      go_wp2
      go_roundw
      case rel => exact ⟨k + 1, by omega, by go_num, HA', HN.out.trans ⟨rfl, rfl, rfl, Nat.le_refl _, fun _ _ => rfl⟩⟩
      case measure => simp [intOf]; omega
    · have he' : (iat xs k != iat ys k) = true := by simpa using he
      have HF : Hid (false = decide (xs = ys)) := by
        unfold Hid
        symm
        rw [decide_eq_false_iff_not]
        intro e
        exact he (by rw [e])
      clear he
      go_wp2
      go_quiet (fail)
      go_wp2
      go_ret
      exact ⟨ret_bool HF.out, HN.out.trans ⟨rfl, rfl, rfl, Nat.le_refl _, fun _ _ => rfl⟩⟩
  have ek : n = k := by omega
  subst ek
  have HF : Hid (true = decide (xs = ys)) := by
    unfold Hid
    symm
    rw [decide_eq_true_iff]
    exact ag_all (by rw [HZ.out]; exact HA.out) (by rw [HZ.out, HZ'.out])
  clear HA hlt hkn hk hk'
  go_wp2
  go_ret
  exact ⟨ret_bool HF.out, HN.out⟩

set_option maxHeartbeats 1000000 in
theorem l3Before_any (B B' : Nat) (v v' : Value) (xs ys : List Int) (w : World) (h0 : HInts B w v xs) (h1 : HInts B' w v' ys) :
    Calls Try.prog 62 #[v, v'] w fun e w' => e = .returned (.bool (befB xs ys)) ∧ Nx w w' := by
  obtain ⟨a, cap, rfl, hn, hk⟩ := h0
  obtain ⟨a', cap', rfl, hn', hk'⟩ := h1
  unfold maxLen at hn hn'
  generalize hz : xs.length = n at *
  have HZ : Hid (xs.length = n) := hz
  clear hz
  generalize hz : ys.length = n' at *
  have HZ' : Hid (ys.length = n') := hz
  clear hz
  by_cases hl : n = n'
  case neg =>
    have hd : ((n : Int) != (n' : Int)) = true := by simp; omega
    have HF : Hid (decide ((n : Int) < (n' : Int)) = befB xs ys) := by
      unfold Hid befB
      rw [HZ.out, HZ'.out, if_neg hl]
      simp
    clear hl
    go_enter Try.func62, Try.ntmps62
    go_wp2
    go_ret
    exact ⟨ret_bool (by first | exact HF.out | (rw [← HF.out]; simp)), Nx.refl _⟩
  subst hl
  have hd : ((n : Int) != (n : Int)) = false := by simp
  have HBD : Hid (befB xs ys = lexB xs ys) := by unfold Hid befB; rw [HZ.out, HZ'.out, if_pos rfl]
  go_enter Try.func62, Try.ntmps62
  go_wp2
  go_loopw [5] (fun i wr => ∃ k : Nat, k ≤ n ∧ i = .int .i64 k ∧ Hid (agTo xs ys k) ∧ Hid (Nx w wr)) (fun i _ => n - (intOf i).toNat)
  case atStart => exact ⟨0, Nat.zero_le _, rfl, agTo_zero _ _, Nx.refl _⟩
  obtain ⟨k, hkn, rfl, HA, HN⟩ := hrel
  by_cases hlt : k < n
  · obtain ⟨b, off, rfl, hB, hb, hc⟩ := hk (by omega)
    obtain ⟨b', off', rfl, hB', hb', hc'⟩ := hk' (by omega)
    have c0 := cell_next HN.out hb (hc k hlt)
    have c1 := cell_next HN.out hb' (hc' k hlt)
    have hlt' : (k : Int) < n := by omega
    clear hc hk hc' hk'
    by_cases he : iat xs k = iat ys k
    · have he' : (iat xs k != iat ys k) = false := by simpa using he
      have HA' : Hid (agTo xs ys (k + 1)) := agTo_succ HA.out he
      clear he
      go_wp2
      go_quiet (fail)
      go_wp2
      go_roundw
      case rel => exact ⟨k + 1, by omega, by go_num, HA', HN.out.trans ⟨rfl, rfl, rfl, Nat.le_refl _, fun _ _ => rfl⟩⟩
      case measure => simp [intOf]; omega
    · have he' : (iat xs k != iat ys k) = true := by simpa using he
      have HF : Hid (decide (iat xs k < iat ys k) = befB xs ys) := by
        unfold Hid
        rw [HBD.out]
        exact (lex_at HA.out (by rw [HZ.out]; exact hlt) (by rw [HZ'.out]; exact hlt) he).symm
      clear he
      go_wp2
      go_quiet (fail)
      go_wp2
      go_quiet (fail)
      go_wp2
      go_ret
      exact ⟨ret_bool HF.out, HN.out.trans ⟨rfl, rfl, rfl, Nat.le_refl _, fun _ _ => rfl⟩⟩
  have ek : n = k := by omega
  subst ek
  have HF : Hid (false = befB xs ys) := by
    unfold Hid
    rw [HBD.out, ag_all (a := xs) (b := ys) (by rw [HZ.out]; exact HA.out) (by rw [HZ.out, HZ'.out]), lex_self]
  clear HA hlt hkn hk hk'
  go_wp2
  go_ret
  exact ⟨ret_bool HF.out, HN.out⟩

def tkI (zs : List Int) (k : Nat) : List Int := zs.take k
theorem tkI_succ {zs : List Int} {k : Nat} (h : k < zs.length) : tkI zs (k + 1) = tkI zs k ++ [iat zs k] := by
  unfold tkI
  rw [List.take_succ_eq_append_getElem h, iat_eq h]
theorem tkI_len {zs : List Int} {k : Nat} (h : k ≤ zs.length) : (tkI zs k).length = k := by simp [tkI, h]
theorem tkI_all (zs : List Int) : tkI zs zs.length = zs := by simp [tkI]

set_option maxHeartbeats 2000000 in
theorem l2Plus_any (B B' : Nat) (v v' : Value) (xs ys : List Int) (w : World) (h0 : HInts B w v xs) (h1 : HInts B' w v' ys) (ha : xs.length ≤ 1048576) (hb : ys.length ≤ 1048576) :
    Calls Try.prog 61 #[v, v'] w fun e w' => (∃ u, e = .returned u ∧ OwnI w.heap.size w' u (xs ++ ys)) ∧ Nx w w' := by
  obtain ⟨ii, hi, hz0, hz1, hz2⟩ := info_parts infoInt
  obtain ⟨a, cap, rfl, hn, hk⟩ := h0
  obtain ⟨a', cap', rfl, hn', hk'⟩ := h1
  unfold maxLen at hn hn'
  generalize hz : xs.length = n at *
  have HZ : Hid (xs.length = n) := hz
  clear hz
  generalize hz : ys.length = n' at *
  have HZ' : Hid (ys.length = n') := hz
  clear hz
  go_enter Try.func61, Try.ntmps61
  go_wp2
  go_loopw [5, 6] (fun u i wr => ∃ k : Nat, k ≤ n ∧ i = .int .i64 k ∧ Hid (OwnI w.heap.size wr u (tkI xs k)) ∧ Hid (Nx w wr)) (fun _ i _ => n - (intOf i).toNat)
  case atStart => exact ⟨0, Nat.zero_le _, rfl, ownI_none w.heap.size w (Nat.le_refl _), box1 _ _⟩
  obtain ⟨k, hkn, rfl, HO, HN⟩ := hrel
  by_cases hlt : k < n
  · obtain ⟨b, off, rfl, hB, hb, hc⟩ := hk (by omega)
    have c0 := cell_next HN.out hb (hc k hlt)
    have hlt' : (k : Int) < n := by omega
    have HLK : Hid ((tkI xs k).length = k) := tkI_len (by rw [HZ.out]; omega)
    have HES : Hid (tkI xs (k + 1) = tkI xs k ++ [iat xs k]) := tkI_succ (by rw [HZ.out]; exact hlt)
    obtain ⟨av, cv, hvs⟩ := HO.out.slice
    rw [HLK.out] at hvs
    subst hvs
    have HZ3 : Hid (w.heap.size ≤ wr.heap.size) := HN.out.size
    clear hc hk hk'
    generalize iat xs k = es at *
    go_wp2_with (at_builtin; refine wpList_append_own_at _ rfl _ _ 24 rfl w.heap.size 2 ii (.int .i64 0) 1 8 Try.underlying24 hi hz0 hz1 hz2 rfl (by decide) _ _ _ rfl (World.ownsRow.alloc HO.out _) ⟨wr.heap.size, 0, none⟩ 1 1 [.int .i64 es] rfl rfl (fun j u hj => new_cells wr _ _ _ rfl j u hj) ?c2 ?c3 ?c4 ?c5 ?_)
    case c2 => intro u hu; simp at hu; subst hu; rfl
    case c3 => rw [HLK.out]; unfold maxLen; omega
    case c4 => rw [HLK.out]; omega
    case c5 => have := HZ3.out; simp; omega
    intro v7 w7 hown hgrow _ _
    have HO7 : Hid (OwnI w.heap.size w7 v7 (tkI xs (k + 1))) := by unfold Hid; rw [HES.out]; exact OwnI.snoc hown
    have HN7 : Hid (Nx w w7) := Below.grown (HN.out.alloc _) hgrow (by have := HZ3.out; simp; omega) (fun g hg => (own_lt HO.out g hg).1)
    clear hown hgrow HO HN c0
    go_wp2
    go_roundw
    case rel => exact ⟨k + 1, by omega, by go_num, HO7, HN7⟩
    case measure => simp [intOf]; omega
  have ek : n = k := by omega
  subst ek
  have HO1 : Hid (OwnI w.heap.size wr u5 (xs ++ tkI ys 0)) := by
    have := HO.out
    rw [show tkI xs n = xs by rw [← HZ.out]; exact tkI_all xs] at this
    unfold Hid
    rw [show tkI ys 0 = [] from rfl, List.append_nil]
    exact this
  clear HO hlt hkn hk
  go_wp2
  go_loopw [5, 7] (fun u i wr => ∃ k : Nat, k ≤ n' ∧ i = .int .i64 k ∧ Hid (OwnI w.heap.size wr u (xs ++ tkI ys k)) ∧ Hid (Nx w wr)) (fun _ i _ => n' - (intOf i).toNat)
  case atStart => exact ⟨0, Nat.zero_le _, rfl, HO1, HN⟩
  clear HO1 HN
  obtain ⟨k, hkn, rfl, HO, HN⟩ := hrel
  by_cases hlt : k < n'
  · obtain ⟨b, off, rfl, hB, hb, hc⟩ := hk' (by omega)
    have c0 := cell_next HN.out hb (hc k hlt)
    have hlt' : (k : Int) < n' := by omega
    have HLK : Hid ((xs ++ tkI ys k).length = n + k) := by unfold Hid; rw [List.length_append, HZ.out, tkI_len (by rw [HZ'.out]; omega)]
    have HES : Hid (xs ++ tkI ys (k + 1) = (xs ++ tkI ys k) ++ [iat ys k]) := by unfold Hid; rw [tkI_succ (by rw [HZ'.out]; exact hlt), List.append_assoc]
    obtain ⟨av, cv, hvs⟩ := HO.out.slice
    rw [HLK.out] at hvs
    subst hvs
    have HZ3 : Hid (w.heap.size ≤ wr.heap.size) := HN.out.size
    clear hc hk'
    generalize iat ys k = es at *
    go_wp2_with (at_builtin; refine wpList_append_own_at _ rfl _ _ 24 rfl w.heap.size 2 ii (.int .i64 0) 1 8 Try.underlying24 hi hz0 hz1 hz2 rfl (by decide) _ _ _ rfl (World.ownsRow.alloc HO.out _) ⟨wr.heap.size, 0, none⟩ 1 1 [.int .i64 es] rfl rfl (fun j u hj => new_cells wr _ _ _ rfl j u hj) ?c2 ?c3 ?c4 ?c5 ?_)
    case c2 => intro u hu; simp at hu; subst hu; rfl
    case c3 => rw [HLK.out]; unfold maxLen; omega
    case c4 => rw [HLK.out]; omega
    case c5 => have := HZ3.out; simp; omega
    intro v7 w7 hown hgrow _ _
    have HO7 : Hid (OwnI w.heap.size w7 v7 (xs ++ tkI ys (k + 1))) := by unfold Hid; rw [HES.out]; exact OwnI.snoc (by rw [List.length_append]; exact hown)
    have HN7 : Hid (Nx w w7) := Below.grown (HN.out.alloc _) hgrow (by have := HZ3.out; simp; omega) (fun g hg => (own_lt HO.out g hg).1)
    clear hown hgrow HO HN c0
    go_wp2
    go_roundw
    case rel => exact ⟨k + 1, by omega, by go_num, HO7, HN7⟩
    case measure => simp [intOf]; omega
  have ek : n' = k := by omega
  subst ek
  have HF : Hid (OwnI w.heap.size wr u5 (xs ++ ys)) := by
    have := HO.out
    rw [show tkI ys n' = ys by rw [← HZ'.out]; exact tkI_all ys] at this
    exact this
  clear HO hlt hkn hk'
  go_wp2
  go_ret
  exact ⟨⟨_, rfl, HF.out⟩, HN.out⟩
end Go.Proofs.Ytifefpeefcjabaa
