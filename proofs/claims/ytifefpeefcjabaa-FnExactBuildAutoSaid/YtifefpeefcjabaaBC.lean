import Derived.Test.YtifefpeefcjabaaBB
namespace Go.Proofs.Ytifefpeefcjabaa
open Go.RowKit Go.Maps
set_option linter.unusedVariables false
set_option maxRecDepth 100000

theorem MK.look {w : World} {m : Value} {ks : List (Int × Nat)} (h : MK w m ks) {e : Int} (hw : (Lit.int .i64 e).wf = true) : (Instr.lookup 80 m (.int .i64 e) false).run Try.prog w = .ok (ptrO (kidOf ks e)) w := by
  rcases h with ⟨rfl, rfl⟩ | ⟨mb, rfl, h⟩
  · simp [Instr.lookup, kidOf, ptrO]
    have hc := keyI.check w true (keyOf_int_mk Try.underlying2 hw)
    have hz := zeroPtr w
    rcases keyI.find w (keyOf_int_mk Try.underlying2 hw) [] (by simp) with ⟨hf, _⟩ | ⟨j, x, _, h2, _⟩
    · simp [hc, hf, hz, Result.andThen]
    · simp at h2
  · obtain ⟨v, ps, hrun, hv⟩ := h.lookup keyI Try.underlying80 (zeroPtr w) (zd := .lit (.int .i64 (-1))) (zp := []) rfl (keyOf_int_mk Try.underlying2 hw)
    rw [kids_at] at hv
    rw [hrun]
    cases hk : kidOf ks e with
    | none =>
      rw [hk] at hv
      rcases ptrR_inv hv with ⟨_, rfl⟩ | ⟨b, hb, _⟩
      · rfl
      · simp at hb
    | some c =>
      rw [hk] at hv
      rcases ptrR_inv hv with ⟨hb, _⟩ | ⟨b, hb, rfl⟩
      · simp at hb
      · have hb' : c = b := by simp at hb; omega
        subst hb'
        rfl
/-- the children of state s -/
def kidsL (A : Au) (n : Nat) (bl : Nat → Nat) (s : Nat) : List (Int × Nat) := ((List.range n).filter (fun t => decide (1 ≤ t ∧ iat A.pa t = s))).map (fun t => (iat A.la t, bl t))
theorem kid_yes {A : Au} {n s : Nat} {bl : Nat → Nat} {e : Int} {b : Nat} (h : kidOf (kidsL A n bl s) e = some b) : ∃ t, IsCh A n s e t ∧ b = bl t := by
  unfold kidOf at h
  rw [Option.map_eq_some_iff] at h
  obtain ⟨p, hp, rfl⟩ := h
  have h1 := List.find?_some hp
  have h2 := List.mem_of_find?_eq_some hp
  unfold kidsL at h2
  obtain ⟨t, ht, rfl⟩ := List.mem_map.1 h2
  rw [List.mem_filter, List.mem_range] at ht
  simp at h1 ht
  exact ⟨t, ⟨ht.2.1, ht.1, ht.2.2, h1⟩, rfl⟩
theorem kid_no {A : Au} {n s : Nat} {bl : Nat → Nat} {e : Int} (h : kidOf (kidsL A n bl s) e = none) : ∀ t, ¬ IsCh A n s e t := by
  intro t ht
  unfold kidOf at h
  rw [Option.map_eq_none_iff, List.find?_eq_none] at h
  have := h (iat A.la t, bl t) (by
    unfold kidsL
    refine List.mem_map.2 ⟨t, ?_, rfl⟩
    rw [List.mem_filter, List.mem_range]
    simp
    exact ⟨ht.2.1, ht.1, ht.2.2.1⟩)
  simp at this
  exact this ht.2.2.2

/-- which state's node it is -/
def idxOf (bl : Nat → Nat) (k : Nat) : Value → Nat
  | .pointer (some ⟨b, 0, none⟩) => (findA (fun u => bl u == b) 0 k).toNat
  | _ => 0
theorem idxOf_eq {bl : Nat → Nat} {k u : Nat} (hi : ∀ s t, s < k → t < k → bl s = bl t → s = t) (hu : u < k) : idxOf bl k (.pointer (some ⟨bl u, 0, none⟩)) = u := by
  show (findA (fun v => bl v == bl u) 0 k).toNat = u
  rw [findA_one (a := u) (Nat.zero_le _) (by omega) (by simp) (fun b _ hb => by
    simp
    intro e
    have := hi b u (by omega) hu e
    omega)]
  rfl
/-- the nodes of a trie of n states, the fails set below k -/
structure TR (A : Au) (n k : Nat) (w : World) (bl : Nat → Nat) (fl mv : Nat → Value) (num : Nat → Int) : Prop where
  nd : ∀ s, s < n → Blk w (bl s) (node (num s) (Wd A s).length (iat A.la s) (if s = 0 then -1 else iat A.mu s) (if s = 0 then false else bat A.bd s) (if s = 0 then .pointer none else ptr (bl (iat A.pa s).toNat)) (fl s) (mv s))
  kd : ∀ s, s < n → MK w (mv s) (kidsL A n bl s)
  fz : fl 0 = .pointer none
  fs : ∀ s, 1 ≤ s → s < k → fl s = ptr (bl (failOf A n s))
  inj : ∀ s t, s < n → t < n → bl s = bl t → s = t

set_option maxHeartbeats 2000000 in
theorem longest_any (A : Au) (n k s : Nat) (e : Int) (w : World) (bl : Nat → Nat) (fl mv : Nat → Value) (num : Nat → Int) (T : Trie A n) (h : TR A n k w bl fl mv num) (hk : k ≤ n) (hs : s < k) (hw : (Lit.int .i64 e).wf = true) :
    Calls Try.prog 67 #[ptr (bl s), .int .i64 e] w fun r w' => r = .returned (ptr (bl (goOf A n s e))) ∧ w' = w := by
  have HT : Hid (Trie A n) := T
  have HR : Hid (TR A n k w bl fl mv num) := h
  have HIX : Hid (∀ u, u < k → idxOf bl k (.pointer (some ⟨bl u, 0, none⟩)) = u) := fun u hu => idxOf_eq (fun s t h1 h2 => h.inj s t (by omega) (by omega)) hu
  clear T h
  unfold ptr
  go_enter Try.func67, Try.ntmps67
  go_wp2
  go_loop [5] (fun v => ∃ u : Nat, u < k ∧ v = .pointer (some ⟨bl u, 0, none⟩) ∧ Hid (goOf A n s e = goOf A n u e)) (fun v => idxOf bl k v)
  case atStart => exact ⟨s, hs, rfl, rfl⟩
  case round =>
    obtain ⟨u, huk, rfl, HG⟩ := hrel
    have hB := HR.out.nd u (by omega)
    have k6 : w.cell? ⟨bl u, 6, none⟩ = some (fl u) := hB.cell (i := 6) rfl
    have k7 : w.cell? ⟨bl u, 7, none⟩ = some (mv u) := hB.cell (i := 7) rfl
    have hl := (HR.out.kd u (by omega)).look hw
    cases hc : kidOf (kidsL A n bl u) e with
    | some c =>
      obtain ⟨t, ht, rfl⟩ := kid_yes hc
      have HF : Hid (goOf A n s e = t) := by unfold Hid; rw [HG.out]; exact go_child HT.out (by omega) ht
      rw [hc] at hl
      simp only [ptrO, ptr] at hl
      clear hc hB
      by_cases hu0 : u = 0
      · subst hu0
        rw [HR.out.fz] at k6
        go_wp2
        go_ret
        exact ⟨by rw [HF.out]; rfl, rfl⟩
      · rw [HR.out.fs u (by omega) huk] at k6
        unfold ptr at k6
        go_wp2
        go_ret
        exact ⟨by rw [HF.out]; rfl, rfl⟩
    | none =>
      have hn := kid_no hc
      rw [hc] at hl
      simp only [ptrO] at hl
      clear hc hB
      by_cases hu0 : u = 0
      · subst hu0
        have HF : Hid (goOf A n s e = 0) := by unfold Hid; rw [HG.out]; exact go_root HT.out hn
        rw [HR.out.fz] at k6
        clear hn
        go_wp2
        go_ret
        exact ⟨by rw [HF.out]; rfl, rfl⟩
      · have hf := fail_spec HT.out (s := u) (by omega) (by omega)
        have HF : Hid (goOf A n s e = goOf A n (failOf A n u) e) := by unfold Hid; rw [HG.out]; exact go_fall HT.out (by omega) (by omega) hn
        have HLT : Hid (failOf A n u < u) := hf.2
        rw [HR.out.fs u (by omega) huk] at k6
        unfold ptr at k6
        clear hn hf
        go_wp2
        go_round
        case rel => exact ⟨failOf A n u, by have := HLT.out; omega, rfl, HF⟩
        case measure => rw [HIX.out u huk, HIX.out _ (by have := HLT.out; omega)]; exact HLT.out
end Go.Proofs.Ytifefpeefcjabaa
