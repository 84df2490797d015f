import Derived.Test.YtifefpeefcjabaaAG
namespace Go.Proofs.Ytifefpeefcjabaa
open Go.RowKit
set_option linter.unusedVariables false
set_option maxRecDepth 100000

theorem lngW_bd {ws : List (List Int)} {x : List Int} (h0 : 0 ≤ stW ws []) {k f : Nat} (hf : k + f = x.length + 1) (h1 : 1 ≤ f) : 0 ≤ lngW ws x k f ∧ lngW ws x k f < ws.length := by
  induction f generalizing k with
  | zero => omega
  | succ f ih =>
    rw [lngW]
    split
    · rename_i h
      obtain ⟨a, e, _, ha, _⟩ := findA_some h
      unfold stW
      rw [e]
      omega
    · rename_i h
      by_cases e : f = 0
      · subst e
        have hk : k = x.length := by omega
        rw [hk, List.drop_length] at h
        exact absurd h0 h
      · exact ih (by omega) (by omega)
/-- the end of a list with one edge more -/
def lngE (ws : List (List Int)) (s : Nat) (e : Int) : Int := lngW ws (wd ws s ++ [e]) 0 ((wd ws s ++ [e]).length + 1 - 0)
def stepS (A : Au) (ws : List (List Int)) (s e : Int) : Int :=
  if s < 0 ∨ (ws.length : Int) ≤ s ∨ e < 0 ∨ 4000 ≤ e then -1
  else if bat A.bd s.toNat = true ∨ (iat A.mu s.toNat ≠ -1 ∧ iat A.mu s.toNat ≠ e) then -1
  else if bat A.bd (lngE ws s.toNat e).toNat = true then -1 else lngE ws s.toNat e
/-- the words of an automaton -/
structure WsOk (A : Au) (ws : List (List Int)) (n : Nat) : Prop where
  l : ws.length = n
  m : A.mu.length = n
  b : A.bd.length = n
  n : n ≤ 2000
  asc : AscW ws
  len : ∀ i, (wd ws i).length ≤ 402
  e : 0 ≤ stW ws []
theorem HInts.cellAt {B : Nat} {w w' : World} {a : Option Addr} {n c : Nat} {xs : List Int} (h : HInts B w (.slice a n c) xs) (k : Nx w w') {i : Nat} (hi : i < n) : ∃ b off, a = some ⟨b, off, none⟩ ∧ w'.cell? ⟨b, off + i, none⟩ = some (.int .i64 (iat xs i)) := by
  obtain ⟨a', c', e, _, hk⟩ := h
  simp only [Value.slice.injEq] at e
  obtain ⟨rfl, rfl, rfl⟩ := e
  obtain ⟨b, off, ha, _, hb, hc⟩ := hk (by omega)
  exact ⟨b, off, ha, cell_next k hb (hc i hi)⟩
theorem HBools.rowAt {B : Nat} {w : World} {a : Option Addr} {n c : Nat} {xs : List Bool} (h : HBools B w (.slice a n c) xs) (h0 : 0 < n) : ∃ b off, a = some ⟨b, off, none⟩ ∧ b < w.heap.size ∧ ∀ i, i < n → w.cell? ⟨b, off + i, none⟩ = some (.bool (bat xs i)) := by
  obtain ⟨a', c', e, _, hk⟩ := h
  simp only [Value.slice.injEq] at e
  obtain ⟨rfl, rfl, rfl⟩ := e
  obtain ⟨b, off, ha, _, hb, hc⟩ := hk h0
  exact ⟨b, off, ha, hb, hc⟩

set_option maxHeartbeats 8000000 in
theorem l3Step_any (B Bw : Nat) (v0 v1 v2 : Value) (a3 a4 aw : Option Addr) (n c3 c4 cw : Nat) (A : Au) (ws : List (List Int)) (s e : Int) (w : World) (h0 : HA B w v0 v1 v2 (.slice a3 n c3) (.slice a4 n c4) A) (hw : HWords Bw w (.slice aw n cw) ws) (hW : WsOk A ws n) :
    Calls Try.prog 47 #[.agg #[v0, v1, v2, .slice a3 n c3, .slice a4 n c4], .slice aw n cw, .int .i64 s, .int .i64 e] w fun r w' => r = .returned (.int .i64 (stepS A ws s e)) ∧ Nx w w' := by
  have HWD : Hid (HWords Bw w (.slice aw n cw) ws) := hw
  have HWS : Hid (WsOk A ws n) := hW
  have HD : Hid (stepS A ws s e = if s < 0 ∨ (n : Int) ≤ s ∨ e < 0 ∨ 4000 ≤ e then -1 else if bat A.bd s.toNat = true ∨ (iat A.mu s.toNat ≠ -1 ∧ iat A.mu s.toNat ≠ e) then -1 else if bat A.bd (lngE ws s.toNat e).toNat = true then -1 else lngE ws s.toNat e) := by unfold Hid stepS; rw [hW.l]
  have hn := hW.n
  have h3 := h0.h3
  have h4 := h0.h4
  clear h0 hW
  by_cases g1 : s < 0
  · have f1 : decide (s < 0) = true := by simpa using g1
    have HF : Hid (-1 = stepS A ws s e) := by unfold Hid; rw [HD.out, if_pos (Or.inl g1)]
    clear g1
    go_enter Try.func47, Try.ntmps47
    go_wp2
    go_ret
    exact ⟨ret_int HF.out, box1 _ _⟩
  have f1 : decide (s < 0) = false := by simpa using g1
  by_cases g2 : (n : Int) ≤ s
  · have f2 : decide ((n : Int) ≤ s) = true := by simpa using g2
    have HF : Hid (-1 = stepS A ws s e) := by unfold Hid; rw [HD.out, if_pos (Or.inr (Or.inl g2))]
    clear g1 g2
    go_enter Try.func47, Try.ntmps47
    go_wp2
    go_ret
    exact ⟨ret_int HF.out, box1 _ _⟩
  have f2 : decide ((n : Int) ≤ s) = false := by simpa using g2
  by_cases g3 : e < 0
  · have f3 : decide (e < 0) = true := by simpa using g3
    have HF : Hid (-1 = stepS A ws s e) := by unfold Hid; rw [HD.out, if_pos (Or.inr (Or.inr (Or.inl g3)))]
    clear g1 g2 g3
    go_enter Try.func47, Try.ntmps47
    go_wp2
    go_ret
    exact ⟨ret_int HF.out, box1 _ _⟩
  have f3 : decide (e < 0) = false := by simpa using g3
  by_cases g4 : 4000 ≤ e
  · have f4 : decide (4000 ≤ e) = true := by simpa using g4
    have HF : Hid (-1 = stepS A ws s e) := by unfold Hid; rw [HD.out, if_pos (Or.inr (Or.inr (Or.inr g4)))]
    clear g1 g2 g3 g4
    go_enter Try.func47, Try.ntmps47
    go_wp2
    go_ret
    exact ⟨ret_int HF.out, box1 _ _⟩
  have f4 : decide (4000 ≤ e) = false := by simpa using g4
  obtain ⟨k, rfl⟩ : ∃ k : Nat, s = (k : Int) := ⟨s.toNat, by omega⟩
  have hkn : k < n := by omega
  have hkn' : (k : Int) < n := by omega
  have HD2 : Hid (stepS A ws k e = if bat A.bd k = true ∨ (iat A.mu k ≠ -1 ∧ iat A.mu k ≠ e) then -1 else if bat A.bd (lngE ws k e).toNat = true then -1 else lngE ws k e) := by
    unfold Hid
    rw [HD.out, if_neg (by omega), Int.toNat_natCast]
  clear g1 g2 g3 g4 HD
  obtain ⟨b3, o3, ha3, y3⟩ := h3.cellAt (Nx.refl w) hkn
  obtain ⟨b4, o4, ha4, hb4, hc4⟩ := h4.rowAt (by omega)
  subst ha3 ha4
  have HC4 : Hid (∀ i, i < n → w.cell? ⟨b4, o4 + i, none⟩ = some (.bool (bat A.bd i))) := hc4
  have x3 := Lib.cell?_alloc_some (.cells #[v0, v1, v2, .slice (some ⟨b3, o3, none⟩) n c3, .slice (some ⟨b4, o4, none⟩) n c4] 27) y3
  have x4 := Lib.cell?_alloc_some (.cells #[v0, v1, v2, .slice (some ⟨b3, o3, none⟩) n c3, .slice (some ⟨b4, o4, none⟩) n c4] 27) (hc4 k hkn)
  clear hc4 h3 h4 y3
  cases g5 : bat A.bd k
  case true =>
    have HF : Hid (-1 = stepS A ws k e) := by unfold Hid; rw [HD2.out, if_pos (Or.inl g5)]
    rw [g5] at x4
    clear g5
    go_enter Try.func47, Try.ntmps47
    go_wp2
    go_ret
    exact ⟨ret_int HF.out, box1 _ _⟩
  rw [g5] at x4
  by_cases g6 : iat A.mu k = -1 ∨ iat A.mu k = e
  case neg =>
    have f6 : (iat A.mu k != -1) = true := by simp; omega
    have f7 : (iat A.mu k != e) = true := by simp; omega
    have HF : Hid (-1 = stepS A ws k e) := by unfold Hid; rw [HD2.out, if_pos (Or.inr (by omega))]
    clear g5 g6
    go_enter Try.func47, Try.ntmps47
    go_wp2
    go_ret
    exact ⟨ret_int HF.out, box1 _ _⟩
  have HD3 : Hid (stepS A ws k e = if bat A.bd (lngE ws k e).toNat = true then -1 else lngE ws k e) := by
    unfold Hid
    rw [HD2.out, if_neg (by rw [g5]; simp; omega)]
  have HLB : Hid (0 ≤ lngE ws k e ∧ lngE ws k e < n) := by
    have := lngW_bd (ws := ws) (x := wd ws k ++ [e]) HWS.out.e (k := 0) (f := (wd ws k ++ [e]).length + 1 - 0) (by omega) (by omega)
    rw [HWS.out.l] at this
    exact this
  have HLD : Hid (lngE ws k e = lngW ws (wd ws k ++ [e]) 0 ((wd ws k ++ [e]).length + 1 - 0)) := rfl
  have W0 : Hid (∀ o : Obj, Nx w (w.alloc o)) := fun o => box1 w o
  obtain ⟨gw, ow, hav, hcw⟩ := HWD.out.at (by omega)
  subst hav
  obtain ⟨vi, hv1, hv2, _⟩ := hcw k hkn
  have HV1 : Hid (w.cell? ⟨gw, ow + k, none⟩ = some vi) := hv1
  have HV2 : Hid (HInts Bw w vi (wd ws k)) := hv2
  have z1 := Lib.cell?_alloc_some (.cells #[v0, v1, v2, .slice (some ⟨b3, o3, none⟩) n c3, .slice (some ⟨b4, o4, none⟩) n c4] 27) hv1
  have HBX : Hid (Blk (w.alloc (.cells #[v0, v1, v2, .slice (some ⟨b3, o3, none⟩) n c3, .slice (some ⟨b4, o4, none⟩) n c4] 27)) w.heap.size #[v0, v1, v2, .slice (some ⟨b3, o3, none⟩) n c3, .slice (some ⟨b4, o4, none⟩) n c4]) := Blk.new w _ 27 _ rfl
  clear hcw hv1 hv2 HD2 g5
  have ht : ∃ t1 t2 : Bool, (iat A.mu k != -1) = t1 ∧ (iat A.mu k != e) = t2 ∧ (t1 && t2) = false := ⟨_, _, rfl, rfl, by simp; omega⟩
  obtain ⟨t1, t2, f6, f7, f8⟩ := ht
  clear g6
  go_enter Try.func47, Try.ntmps47
  cases t1
  · go_wp2_with fail
    refine (l2Plus_any Bw (w.heap.size + 1) _ _ (wd ws k) [e] _ (by exact HV2.out.next (box2 _ _ _)) (by exact (ownI_two w _ e).held) (by have := HWS.out.len k; omega) (by simp)).mono ?_
    rintro r w1 ⟨⟨u, rfl, hu⟩, hx⟩
    have HN1 : Hid (Nx w w1) := (box2 _ _ _).trans hx
    have HB1 := (HBX.out.alloc (.cells #[.int .i64 e] 2)).next hx
    have HU1 : Hid (OwnI (w.heap.size + 2) w1 u (wd ws k ++ [e])) := by unfold Hid; simpa using hu
    clear hx hu x3 x4 z1
    go_wp2_with fail
    refine (l3Longest_any Bw (w.heap.size + 2) _ _ ws (wd ws k ++ [e]) 0 _ (by exact HWD.out.next HN1.out) (by exact HU1.out.held) HWS.out.asc (by rw [HWS.out.l]; omega) (by have := HWS.out.len k; simp; omega) (by omega) HU1.out.capOk).mono ?_
    rintro r w2 ⟨rfl, hx⟩
    rw [← HLD.out]
    obtain ⟨z, hz⟩ : ∃ z : Nat, lngE ws k e = (z : Int) := ⟨(lngE ws k e).toNat, by have := HLB.out.1; omega⟩
    have hzn : z < n := by have := HLB.out.2; omega
    have hzn' : (z : Int) < n := by omega
    have HN2 : Hid (Nx w w2) := HN1.out.trans hx
    have HB2 := HB1.next hx
    have k4 := HB2.cell (i := 4) rfl
    have x4 := cell_next HN2.out hb4 (HC4.out z hzn)
    rw [hz] at HD3 ⊢
    rw [Int.toNat_natCast] at HD3
    clear hx hz HB1 HB2
    cases g9 : bat A.bd z
    · have HF : Hid ((z : Int) = stepS A ws k e) := by unfold Hid; rw [HD3.out, if_neg (by rw [g9]; simp)]
      rw [g9] at x4
      clear g9
      go_wp2
      go_ret
      exact ⟨ret_int HF.out, HN2.out⟩
    · have HF : Hid (-1 = stepS A ws k e) := by unfold Hid; rw [HD3.out, if_pos g9]
      rw [g9] at x4
      clear g9
      go_wp2
      go_ret
      exact ⟨ret_int HF.out, HN2.out⟩
  · cases t2
    · go_wp2_with fail
      refine (l2Plus_any Bw (w.heap.size + 1) _ _ (wd ws k) [e] _ (by exact HV2.out.next (box2 _ _ _)) (by exact (ownI_two w _ e).held) (by have := HWS.out.len k; omega) (by simp)).mono ?_
      rintro r w1 ⟨⟨u, rfl, hu⟩, hx⟩
      have HN1 : Hid (Nx w w1) := (box2 _ _ _).trans hx
      have HB1 := (HBX.out.alloc (.cells #[.int .i64 e] 2)).next hx
      have HU1 : Hid (OwnI (w.heap.size + 2) w1 u (wd ws k ++ [e])) := by unfold Hid; simpa using hu
      clear hx hu x3 x4 z1
      go_wp2_with fail
      refine (l3Longest_any Bw (w.heap.size + 2) _ _ ws (wd ws k ++ [e]) 0 _ (by exact HWD.out.next HN1.out) (by exact HU1.out.held) HWS.out.asc (by rw [HWS.out.l]; omega) (by have := HWS.out.len k; simp; omega) (by omega) HU1.out.capOk).mono ?_
      rintro r w2 ⟨rfl, hx⟩
      rw [← HLD.out]
      obtain ⟨z, hz⟩ : ∃ z : Nat, lngE ws k e = (z : Int) := ⟨(lngE ws k e).toNat, by have := HLB.out.1; omega⟩
      have hzn : z < n := by have := HLB.out.2; omega
      have hzn' : (z : Int) < n := by omega
      have HN2 : Hid (Nx w w2) := HN1.out.trans hx
      have HB2 := HB1.next hx
      have k4 := HB2.cell (i := 4) rfl
      have x4 := cell_next HN2.out hb4 (HC4.out z hzn)
      rw [hz] at HD3 ⊢
      rw [Int.toNat_natCast] at HD3
      clear hx hz HB1 HB2
      cases g9 : bat A.bd z
      · have HF : Hid ((z : Int) = stepS A ws k e) := by unfold Hid; rw [HD3.out, if_neg (by rw [g9]; simp)]
        rw [g9] at x4
        clear g9
        go_wp2
        go_ret
        exact ⟨ret_int HF.out, HN2.out⟩
      · have HF : Hid (-1 = stepS A ws k e) := by unfold Hid; rw [HD3.out, if_pos g9]
        rw [g9] at x4
        clear g9
        go_wp2
        go_ret
        exact ⟨ret_int HF.out, HN2.out⟩
    · simp at f8
end Go.Proofs.Ytifefpeefcjabaa
