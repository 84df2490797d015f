import Derived.Test.YtifefpeefcjabaaDB
namespace Go.Proofs.Ytifefpeefcjabaa
open Go.RowKit Go.Maps
set_option linter.unusedVariables false
set_option maxRecDepth 100000

theorem joinMusts_any (a b : Int) (w : World) : Calls Try.prog 74 #[.int .i64 a, .int .i64 b] w fun r w' => r = .returned (.int .i64 (jm a b)) ∧ w' = w := by
  have HJ : Hid (jm a b = if a = -1 ∨ a = b then b else if b = -1 then a else -2) := rfl
  by_cases h1 : a = -1
  · have d1 : (a == -1) = true := by simpa using h1
    have HF : Hid (b = jm a b) := by unfold Hid; rw [HJ.out, if_pos (Or.inl h1)]
    clear h1
    go_enter Try.func74, Try.ntmps74
    go_wp2
    go_ret
    exact ⟨ret_int HF.out, rfl⟩
  have d1 : (a == -1) = false := by simpa using h1
  by_cases h2 : a = b
  · have d2 : (a == b) = true := by simpa using h2
    have HF : Hid (b = jm a b) := by unfold Hid; rw [HJ.out, if_pos (Or.inr h2)]
    clear h1 h2
    go_enter Try.func74, Try.ntmps74
    go_wp2
    go_ret
    exact ⟨ret_int HF.out, rfl⟩
  have d2 : (a == b) = false := by simpa using h2
  by_cases h3 : b = -1
  · have d3 : (b == -1) = true := by simpa using h3
    have HF : Hid (a = jm a b) := by unfold Hid; rw [HJ.out, if_neg (by rintro (h | h); exact h1 h; exact h2 h), if_pos h3]
    clear h1 h2 h3
    go_enter Try.func74, Try.ntmps74
    go_wp2
    go_ret
    exact ⟨ret_int HF.out, rfl⟩
  have d3 : (b == -1) = false := by simpa using h3
  have HF : Hid (-2 = jm a b) := by unfold Hid; rw [HJ.out, if_neg (by rintro (h | h); exact h1 h; exact h2 h), if_neg h3]
  clear h1 h2 h3
  go_enter Try.func74, Try.ntmps74
  go_wp2
  go_ret
  exact ⟨ret_int HF.out, rfl⟩

theorem noE_edge (e : Int) : noE e = !edgeB e := by
  unfold noE edgeB
  by_cases h1 : 0 ≤ e
  · by_cases h2 : e < 4000
    · simp [h1, h2]
    · simp [h1, h2]; omega
  · simp [h1]; omega
def allE (zs : List Int) : Bool := allN zs.length (fun j => edgeB (iat zs j))

set_option maxHeartbeats 400000 in
theorem indexFunc_any (B : Nat) (v : Value) (zs : List Int) (w : World) (h0 : HInts B w v zs) :
    Calls Try.prog 78 #[v, .func (.func 66) #[] #[]] w fun e w' => ∃ r : Int, e = .returned (.int .i64 r) ∧ decide (0 ≤ r) = !allE zs ∧ w' = w := by
  obtain ⟨a, cap, rfl, hn, hk⟩ := h0
  unfold maxLen at hn
  generalize hz : zs.length = n at *
  have HZ : Hid (zs.length = n) := hz
  clear hz
  go_enter Try.func78, Try.ntmps78
  go_wp2
  go_loop [8] (fun i => ∃ k : Nat, k ≤ n ∧ i = .int .i64 k ∧ Hid (allTo (fun i => edgeB (iat zs i)) k)) (fun i => n - (intOf i).toNat)
  case atStart => exact ⟨0, Nat.zero_le _, rfl, allTo_zero _⟩
  case round =>
    obtain ⟨k, hkn, rfl, hrel⟩ := hrel
    by_cases hlt : k < n
    · obtain ⟨b, off, rfl, hB, hb, hc⟩ := hk (by omega)
      have hcc := hc k hlt
      clear hc hk
      by_cases hin : edgeB (iat zs k) = true
      · have hno : noE (iat zs k) = false := by rw [noE_edge, hin]; rfl
        go_wp2_with (go_at_call 66; refine (noEdge_any _ _).mono ?_; rintro e w' ⟨rfl, rfl⟩)
        go_round
        case rel => exact ⟨k + 1, by omega, by go_num, allTo_succ hrel hin⟩
        case measure => simp [intOf]; omega
      · have hin' : edgeB (iat zs k) = false := by simpa using hin
        have hno : noE (iat zs k) = true := by rw [noE_edge, hin']; rfl
        go_wp2_with (go_at_call 66; refine (noEdge_any _ _).mono ?_; rintro e w' ⟨rfl, rfl⟩)
        go_ret
        exact ⟨k, rfl, by unfold allE; rw [allN_no (by rw [HZ.out]; exact hlt) hin']; simp, rfl⟩
    · go_wp2
      go_ret
      exact ⟨-1, rfl, by unfold allE; rw [allN_yes (by rw [HZ.out]; omega) hrel]; rfl, rfl⟩

set_option maxHeartbeats 400000 in
theorem containsFunc_any (B : Nat) (v : Value) (zs : List Int) (w : World) (h0 : HInts B w v zs) :
    Calls Try.prog 68 #[v, .func (.func 66) #[] #[]] w fun e w' => e = .returned (.bool (!allE zs)) ∧ w' = w := by
  go_enter Try.func68, Try.ntmps68
  go_wp2_with fail
  refine (indexFunc_any B _ zs _ h0).mono ?_
  rintro e w' ⟨r, rfl, hr, rfl⟩
  go_wp2
  go_ret
  exact ⟨rfl, rfl⟩

set_option maxHeartbeats 2000000 in
theorem validRules_any (B : Nat) (v : Value) (rs : List Ru) (w : World) (h0 : HRules B w v rs) :
    Calls Try.prog 54 #[v] w fun e w' => e = .returned (.bool (rgB rs)) ∧ Nx w w' := by
  obtain ⟨a, cap, rfl, hn, hk⟩ := h0
  unfold maxLen at hn
  generalize hz : rs.length = n at *
  have HZ : Hid (rs.length = n) := hz
  clear hz
  by_cases e1 : n ≤ 1000
  case neg =>
    have d1 : decide (1000 < (n : Int)) = true := by simp; omega
    have HF : Hid (false = rgB rs) := rg_len (by rw [HZ.out]; exact e1)
    go_enter Try.func54, Try.ntmps54
    go_wp2
    go_ret
    exact ⟨ret_bool HF.out, Nx.refl _⟩
  have d1 : decide (1000 < (n : Int)) = false := by simp; omega
  go_enter Try.func54, Try.ntmps54
  go_wp2
  clear d1
  go_loopw [4, 5, 11] (fun _ _ i wr => ∃ k : Nat, k ≤ n ∧ i = .int .i64 k ∧ Hid (allTo (fun i => rgAt (rat rs i)) k) ∧ Hid (Nx w wr)) (fun _ _ i _ => n - (intOf i).toNat)
  case atStart => exact ⟨0, Nat.zero_le _, rfl, allTo_zero _, Nx.refl _⟩
  obtain ⟨k, hkn, rfl, HA, HN⟩ := hrel
  by_cases hlt : k < n
  case neg =>
    have HF : Hid (true = rgB rs) := rg_yes HZ.out e1 (by omega) HA.out
    go_wp2
    go_ret
    exact ⟨ret_bool HF.out, HN.out⟩
  obtain ⟨b, off, rfl, _, hb, hc⟩ := hk (by omega)
  obtain ⟨sa, sc, c0', c1', c2', hS, hcap⟩ := hc k hlt
  have c0 := cellq' HN.out c0'
  have c1 := cellq' HN.out c1'
  have c2 := cellq' HN.out c2'
  have hlt' : (k : Int) < n := by omega
  have HS : Hid (HInts B w (.slice sa (rat rs k).seq.length sc) (rat rs k).seq) := hS
  have HRG : Hid (rgAt (rat rs k) = (decide (2 ≤ (rat rs k).seq.length) && (decide ((rat rs k).seq.length ≤ 402) && allE (rat rs k).seq))) := rfl
  have HNA : Hid (allTo (fun i => rgAt (rat rs i)) k) := HA
  clear hc hk c0' c1' c2' hS HA
  generalize hx : rat rs k = x at *
  have HX : Hid (rat rs k = x) := hx
  clear hx
  have hsn : x.seq.length ≤ maxLen := by obtain ⟨_, _, _, h, _⟩ := HS.out; exact h
  unfold maxLen at hsn
  generalize hm : x.seq.length = m at *
  have HM : Hid (x.seq.length = m) := hm
  clear hm
  have HB1 : Hid (Nx wr (wr.alloc (.cells #[.int .i64 x.rel, .bool x.only, .slice sa m sc] 62))) := box1 _ _
  by_cases g1 : 2 ≤ m
  case neg =>
    have f1 : decide ((m : Int) < 2) = true := by simp; omega
    have HF : Hid (false = rgB rs) := rg_no HZ.out hlt (by rw [HX.out, HRG.out]; simp [g1])
    go_wp2
    go_ret
    exact ⟨ret_bool HF.out, HN.out.trans HB1.out⟩
  have f1 : decide ((m : Int) < 2) = false := by simp; omega
  by_cases g2 : m ≤ 402
  case neg =>
    have f2 : decide (402 < (m : Int)) = true := by simp; omega
    have HF : Hid (false = rgB rs) := rg_no HZ.out hlt (by rw [HX.out, HRG.out]; simp [g2])
    go_wp2
    go_ret
    exact ⟨ret_bool HF.out, HN.out.trans HB1.out⟩
  have f2 : decide (402 < (m : Int)) = false := by simp; omega
  go_wp2_with fail
  refine (containsFunc_any B _ x.seq _ (by exact (HS.out.next HN.out).next HB1.out)).mono ?_
  rintro e w1 ⟨rfl, rfl⟩
  cases g3 : allE x.seq
  case false =>
    have HF : Hid (false = rgB rs) := rg_no HZ.out hlt (by rw [HX.out, HRG.out, g3]; simp)
    clear g3
    go_wp2
    go_ret
    exact ⟨ret_bool HF.out, HN.out.trans HB1.out⟩
  case true =>
    have HF : Hid (rgAt x = true) := by unfold Hid; rw [HRG.out, g3]; simp [g1, g2]
    clear g3
    go_wp2
    go_roundw
    case rel => exact ⟨k + 1, by omega, by go_num, allTo_succ HNA.out (by show rgAt (rat rs k) = true; rw [HX.out]; exact HF.out), HN.out.trans HB1.out⟩
    case measure => simp [intOf]; omega
end Go.Proofs.Ytifefpeefcjabaa
