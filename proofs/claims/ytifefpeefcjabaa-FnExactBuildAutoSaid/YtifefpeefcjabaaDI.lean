import Derived.Test.YtifefpeefcjabaaDG
import Derived.Test.YtifefpeefcjabaaDH
namespace Go.Proofs.Ytifefpeefcjabaa
open Go.RowKit Go.Sort Go.Maps
set_option linter.unusedVariables false
set_option maxRecDepth 100000

theorem Fr.below {n C : Nat} {bl : Nat → Nat} {w0 w w' : World} (h : Below C w0 w) (k : Fr n bl w w') (hC : C ≤ w.heap.size) (hb : ∀ t, t < n → C ≤ bl t) : Below C w0 w' :=
  ⟨k.os.trans h.os, k.tape.trans h.tape, k.output.trans h.output, Nat.le_trans h.size k.size, fun b hlt => (k.block b (by omega) (fun t ht e => by have := hb t ht; omega)).trans (h.block b hlt)⟩
theorem TR.nr {ws : List (List Int)} {mu : List Int → Int} {bd : List Int → Bool} {w : World} {bl : Nat → Nat} {fl mv : Nat → Value} (hW : WS ws) (h : TR (autoOf ws mu bd) ws.length ws.length w bl fl mv (numTo ws.length)) (hm : mu [] = -1) (hb : bd [] = false) :
    NR ws.length w bl (fun s => (s : Int)) (fun s => ((Wd (autoOf ws mu bd) s).length : Int)) (fun s => lastE (wd ws s)) (fun s => mu (wd ws s)) (fun s => bd (wd ws s)) (fun s => if s = 0 then .pointer none else ptr (bl (iat (autoOf ws mu bd).pa s).toNat)) fl mv := by
  refine ⟨fun s hs => ?_, h.inj⟩
  have hn := h.nd s hs
  rw [auto_la hs, auto_mu hs, auto_bd hs, show numTo ws.length s = (s : Int) from if_pos hs] at hn
  by_cases h0 : s = 0
  · subst h0
    rw [if_pos rfl, if_pos rfl] at hn
    show Blk w (bl 0) (node _ _ _ (mu (wd ws 0)) (bd (wd ws 0)) _ _ _)
    rw [hW.root, hm, hb]
    rw [hW.root] at hn
    exact hn
  · rw [if_neg h0, if_neg h0] at hn
    exact hn
def big (rs : List Ru) : Prop := ∃ ws : List (List Int), 2000 < ws.length ∧ AscW ws ∧ ∀ y, inW ws y → PW rs rs.length 1 y
/-- states by number -/
structure SN (rs : List Ru) (w : World) (v : Value) (ws : List (List Int)) (C : Nat) (bl : Nat → Nat) (len : Nat → Int) (par fl mv : Nat → Value) : Prop where
  le : ws.length ≤ 2000
  ok : WS ws
  mem : ∀ y, inW ws y ↔ PW rs rs.length 1 y
  own : OwnP C w v ((List.range ws.length).map bl)
  nr : NR ws.length w bl (fun s => (s : Int)) len (fun s => lastE (wd ws s)) (fun s => mustS rs (wd ws s)) (fun s => badS rs (wd ws s)) par fl mv
  pa : ∀ s, s < ws.length → (par s = .pointer none ∧ fPa ws (wd ws s) = -1) ∨ ∃ t, t < ws.length ∧ par s = ptr (bl t) ∧ fPa ws (wd ws s) = (t : Nat)
  fa : ∀ s, s < ws.length → (fl s = .pointer none ∧ fFa ws (wd ws s) = -1) ∨ ∃ t, t < ws.length ∧ fl s = ptr (bl t) ∧ fFa ws (wd ws s) = (t : Nat)
def StE (rs : List Ru) (w' : World) (r : Ending) : Prop :=
  (rgB rs = false ∧ r = .returned (.tuple #[.slice none 0 0, .int .i64 12])) ∨ (rgB rs = true ∧ big rs ∧ r = .returned (.tuple #[.slice none 0 0, .int .i64 13])) ∨
  (rgB rs = true ∧ ∃ (va : Option Addr) (vn vc : Nat) (ws : List (List Int)) (C : Nat) (bl : Nat → Nat) (len : Nat → Int) (par fl mv : Nat → Value), r = .returned (.tuple #[.slice va vn vc, .int .i64 0]) ∧ SN rs w' (.slice va vn vc) ws C bl len par fl mv)

set_option maxHeartbeats 4000000 in
theorem statesOf_any (B : Nat) (v : Value) (rs : List Ru) (w : World) (h0 : HRules B w v rs) :
    Calls Try.prog 35 #[v] w fun r w' => StE rs w' r ∧ Nx w w' := by
  have HH : Hid (HRules B w v rs) := h0
  obtain ⟨va, vc, rfl, _, _⟩ := h0
  go_enter Try.func35, Try.ntmps35
  go_wp2_with fail
  refine (validRules_any B _ rs w HH.out).mono ?_
  rintro e w1 ⟨rfl, hx⟩
  have HX1 : Hid (Nx w w1) := hx
  clear hx
  cases hg : rgB rs
  case false =>
    have HF : Hid (StE rs w1 (.returned (.tuple #[.slice none 0 0, .int .i64 12]))) := Or.inl ⟨hg, rfl⟩
    clear hg
    go_wp2
    refine bodyPost_ret (v := .tuple #[.slice none 0 0, .int .i64 12]) (by simp [results, Try.results35, go_sem]) rfl ⟨HF.out, HX1.out⟩
  have HG : Hid (rgB rs = true) := hg
  clear hg
  go_wp2_with fail
  refine (growTrie_any B _ rs w1 (HH.out.next HX1.out) HG.out).mono ?_
  rintro r w2 ⟨hr, hx⟩
  have HX2 : Hid (Nx w w2) := HX1.out.trans hx
  have HX12 : Hid (Nx w1 w2) := hx
  clear hx
  rcases hr with ⟨rfl, hb⟩ | ⟨ws, bl, mv, rfl, hle, hI⟩
  · have HF : Hid (StE rs w2 (.returned (.tuple #[.slice none 0 0, .int .i64 13]))) := Or.inr (Or.inl ⟨HG.out, hb, rfl⟩)
    clear hb
    go_wp2
    refine bodyPost_ret (v := .tuple #[.slice none 0 0, .int .i64 13]) (by simp [results, Try.results35, go_sem]) rfl ⟨HF.out, HX2.out⟩
  have HI : Hid (GI rs rs.length w1 w2 ws bl mv) := hI
  have HLE : Hid (ws.length ≤ 2000) := hle
  have HMN : Hid (mustS rs [] = -1 ∧ muK rs rs.length [] = -1) := must_nil HG.out hI.mem
  have HBN : Hid (badS rs [] = false ∧ bdK rs rs.length [] = false) := bad_nil HG.out hI.mem
  have HTR : Hid (TR (autoOf ws (muK rs rs.length) (bdK rs rs.length)) ws.length 1 w2 (fun s => bl (wd ws s)) (fun _ => .pointer none) (fun s => mv (wd ws s)) (fun _ => 0)) := hI.pt.trie hI.ok HMN.out.2 HBN.out.2
  have HLK := linkStates_any (autoOf ws (muK rs rs.length) (bdK rs rs.length)) ws.length w2 (fun s => bl (wd ws s)) (fun _ => .pointer none) (fun s => mv (wd ws s)) (auto_trie hI.ok) (auto_asc hI.ok) hle HTR.out
  have hb0 : bl (wd ws 0) = w1.heap.size := by rw [hI.ok.root]; exact hI.root
  rw [hb0] at HLK
  have HLK2 : Hid (Calls Try.prog 56 #[ptr w1.heap.size] w2 fun r w' => ∃ v fl', r = .returned v ∧ OwnP (w2.heap.size + 1) w' v ((List.range ws.length).map (fun s => bl (wd ws s))) ∧ TR (autoOf ws (muK rs rs.length) (bdK rs rs.length)) ws.length ws.length w' (fun s => bl (wd ws s)) fl' (fun s => mv (wd ws s)) (numTo ws.length) ∧ Fr ws.length (fun s => bl (wd ws s)) w2 w') := HLK
  have HLT : Hid (∀ s, s < ws.length → bl (wd ws s) < w2.heap.size + 1) := fun s hs => Nat.lt_succ_of_lt (HTR.out.nd s hs).lt
  have HGE : Hid (∀ s, s < ws.length → w.heap.size ≤ bl (wd ws s)) := fun s hs => Nat.le_trans HX1.out.size (hI.pt.ge _ ⟨s, hs, rfl⟩)
  clear HLK hI hle hb0 HTR
  go_wp2_with fail
  refine HLK2.out.mono ?_
  rintro r w3 ⟨sv, fl, rfl, hown, htr, hfr⟩
  have HX3 : Hid (Nx w w3) := hfr.below HX2.out HX2.out.size HGE.out
  have HTR : Hid (TR (autoOf ws (muK rs rs.length) (bdK rs rs.length)) ws.length ws.length w3 (fun s => bl (wd ws s)) fl (fun s => mv (wd ws s)) (numTo ws.length)) := htr
  have HNR := TR.nr HI.out.ok htr HMN.out.2 HBN.out.2
  obtain ⟨sa, sc, hsv⟩ := hown.slice
  generalize ((List.range ws.length).map (fun s => bl (wd ws s))).length = sn at hsv
  subst hsv
  obtain ⟨m, hm⟩ : ∃ m, ws.length = m + 1 := ⟨ws.length - 1, by have := HI.out.ok.pos; omega⟩
  have HIN : Hid (Calls Try.prog 57 #[.slice sa sn sc] w3 fun r w' => r = .returned (.tuple #[]) ∧ NR ws.length w' (fun s => bl (wd ws s)) (fun s => (s : Int)) (fun s => ((Wd (autoOf ws (muK rs rs.length) (bdK rs rs.length)) s).length : Int)) (fun s => lastE (wd ws s)) (fun s => mustS rs (wd ws s)) (fun s => badS rs (wd ws s)) (fun s => if s = 0 then .pointer none else ptr (bl (wd ws (iat (autoOf ws (muK rs rs.length) (bdK rs rs.length)).pa s).toNat))) fl (fun s => mv (wd ws s)) ∧ OwnP (w2.heap.size + 1) w' (.slice sa sn sc) ((List.range ws.length).map (fun s => bl (wd ws s))) ∧ Fr ws.length (fun s => bl (wd ws s)) w3 w') := by
    have hk := inherit_any m (w2.heap.size + 1) (.slice sa sn sc) w3 (fun s => bl (wd ws s)) (fun s => (s : Int)) (fun s => ((Wd (autoOf ws (muK rs rs.length) (bdK rs rs.length)) s).length : Int)) (fun s => lastE (wd ws s)) (fun s => muK rs rs.length (wd ws s)) (fun s => mustS rs (wd ws s)) (fun s => bdK rs rs.length (wd ws s)) (fun s => badS rs (wd ws s)) (fun s => if s = 0 then .pointer none else ptr (bl (wd ws (iat (autoOf ws (muK rs rs.length) (bdK rs rs.length)).pa s).toNat))) fl (fun s => mv (wd ws s)) (fun s => failOf (autoOf ws (muK rs rs.length) (bdK rs rs.length)) ws.length s)
      (by rw [← hm]; exact hown) (fun s hs => HLT.out s (by omega)) (by rw [← hm]; exact HNR) (by have := HLE.out; omega)
      (fun s h1 hs => ⟨HTR.out.fs s h1 (by omega), (auto_fail HI.out.ok h1 (by omega)).2⟩)
      (by show mustS rs (wd ws 0) = muK rs rs.length (wd ws 0); rw [HI.out.ok.root, HMN.out.1, HMN.out.2]) (by show badS rs (wd ws 0) = bdK rs rs.length (wd ws 0); rw [HI.out.ok.root, HBN.out.1, HBN.out.2])
      (fun s h1 hs => must_step HG.out HI.out.ok HI.out.mem h1 (by omega)) (fun s h1 hs => bad_step HG.out HI.out.ok HI.out.mem h1 (by omega))
    rw [← hm] at hk
    exact hk
  have HPA : Hid (∀ s, s < ws.length → ((if s = 0 then Value.pointer none else ptr (bl (wd ws (iat (autoOf ws (muK rs rs.length) (bdK rs rs.length)).pa s).toNat))) = .pointer none ∧ fPa ws (wd ws s) = -1) ∨ ∃ t, t < ws.length ∧ (if s = 0 then Value.pointer none else ptr (bl (wd ws (iat (autoOf ws (muK rs rs.length) (bdK rs rs.length)).pa s).toNat))) = ptr (bl (wd ws t)) ∧ fPa ws (wd ws s) = (t : Nat)) := by
    intro s hs
    by_cases h0 : s = 0
    · subst h0
      exact Or.inl ⟨if_pos rfl, by unfold fPa; rw [HI.out.ok.root, if_pos rfl]⟩
    · obtain ⟨t, ht, et, hst, _⟩ := HI.out.ok.par (by omega) hs
      refine Or.inr ⟨t, by omega, ?_, ?_⟩
      · rw [if_neg h0, auto_pa HI.out.ok (by omega) hs hst, Int.toNat_natCast]
      · unfold fPa; rw [if_neg (HI.out.ok.ne (by omega) hs), hst]
  have HFA : Hid (∀ s, s < ws.length → (fl s = .pointer none ∧ fFa ws (wd ws s) = -1) ∨ ∃ t, t < ws.length ∧ fl s = ptr (bl (wd ws t)) ∧ fFa ws (wd ws s) = (t : Nat)) := by
    intro s hs
    by_cases h0 : s = 0
    · subst h0
      exact Or.inl ⟨HTR.out.fz, by unfold fFa; rw [HI.out.ok.root, if_pos rfl]⟩
    · have hF := auto_fail (mu := muK rs rs.length) (bd := bdK rs rs.length) HI.out.ok (show 1 ≤ s by omega) hs
      refine Or.inr ⟨failOf (autoOf ws (muK rs rs.length) (bdK rs rs.length)) ws.length s, by omega, HTR.out.fs s (by omega) hs, ?_⟩
      unfold fFa; rw [if_neg (HI.out.ok.ne (by omega) hs), hF.1]
  clear hown htr hfr HNR hm HLK2 HTR
  go_wp2_with fail
  refine HIN.out.mono ?_
  rintro r w4 ⟨rfl, hnr, hown, hfr⟩
  have HX4 : Hid (Nx w w4) := hfr.below HX3.out HX3.out.size HGE.out
  have HF : Hid (StE rs w4 (.returned (.tuple #[.slice sa sn sc, .int .i64 0]))) := Or.inr (Or.inr ⟨HG.out, _, _, _, ws, _, _, _, _, _, _, rfl, HLE.out, HI.out.ok, HI.out.mem, hown, hnr, HPA.out, HFA.out⟩)
  clear hnr hown hfr HIN HPA HFA
  go_wp2
  refine bodyPost_ret (v := .tuple #[.slice sa sn sc, .int .i64 0]) (by simp [results, Try.results35, go_sem]) rfl ⟨HF.out, HX4.out⟩

/-- the answer of BuildAuto, as the program finds it -/
def BuiltI (rs : List Ru) (code : Int) (A : Au) : Prop :=
  (rgB rs = false ∧ code = 12 ∧ A = auZ) ∨ (rgB rs = true ∧ big rs ∧ code = 13 ∧ A = auZ) ∨ (rgB rs = true ∧ ∃ ws : List (List Int), ws.length ≤ 2000 ∧ AscW ws ∧ (∀ y, inW ws y ↔ PW rs rs.length 1 y) ∧ code = 0 ∧ A = autoOf ws (mustS rs) (badS rs))
theorem built_same {rs : List Ru} {c c' : Int} {A A' : Au} (h : BuiltIs rs c A) (k : BuiltI rs c' A') : c = c' ∧ A = A' := by
  rcases h with ⟨h1, h2, h3⟩ | ⟨h1, ws, hI, hc⟩
  · rcases k with ⟨k1, k2, k3⟩ | ⟨k1, _⟩ | ⟨k1, _⟩
    · exact ⟨h2.trans k2.symm, h3.trans k3.symm⟩
    · rw [h1] at k1; cases k1
    · rw [h1] at k1; cases k1
  · rcases k with ⟨k1, _⟩ | ⟨_, ⟨us, u1, u2, u3⟩, k2, k3⟩ | ⟨_, us, u1, u2, u3, k2, k3⟩
    · rw [h1] at k1; cases k1
    · rcases hc with ⟨_, h2, h3⟩ | ⟨hl, _, _⟩
      · exact ⟨h2.trans k2.symm, h3.trans k3.symm⟩
      · have := sub_len u2 hI.asc (fun y hy => hI.all hl y (u3 y hy))
        omega
    · rcases hc with ⟨hl, _, _⟩ | ⟨hl, h2, h3⟩
      · have := sub_len hI.asc u2 (fun y hy => (u3 y).2 (hI.yes y hy))
        omega
      · have e : ws = us := same_words hI.asc u2 fun y => ⟨fun hy => (u3 y).2 (hI.yes y hy), fun hy => hI.all hl y ((u3 y).1 hy)⟩
        subst e
        exact ⟨h2.trans k2.symm, h3.trans k3.symm⟩
def ImE (rs : List Ru) (w w' : World) (e : Ending) : Prop := ∃ (code : Int) (a0 : Option Addr) (n0 c0 : Nat) (a1 : Option Addr) (n1 c1 : Nat) (a2 : Option Addr) (n2 c2 : Nat) (a3 : Option Addr) (n3 c3 : Nat) (a4 : Option Addr) (n4 c4 : Nat) (A : Au), e = .returned (.agg #[.int .i64 code, .slice a0 n0 c0, .slice a1 n1 c1, .slice a2 n2 c2, .slice a3 n3 c3, .slice a4 n4 c4]) ∧ BuiltI rs code A ∧ O5 w.heap.size w' (.slice a0 n0 c0) (.slice a1 n1 c1) (.slice a2 n2 c2) (.slice a3 n3 c3) (.slice a4 n4 c4) A

set_option maxHeartbeats 4000000 in
theorem implBuild_any (B : Nat) (v : Value) (rs : List Ru) (w : World) (h0 : HRules B w v rs) :
    Calls Try.prog 10 #[v] w fun e w' => ImE rs w w' e ∧ Nx w w' := by
  have HH : Hid (HRules B w v rs) := h0
  have HX0 : Hid (Nx w (w.alloc (.cells #[.int .i64 0, .slice none 0 0, .slice none 0 0, .slice none 0 0, .slice none 0 0, .slice none 0 0] 29))) := box1 _ _
  obtain ⟨va, vc, rfl, _, _⟩ := h0
  go_enter Try.func10, Try.ntmps10
  go_wp2_with fail
  refine (statesOf_any B _ rs _ (HH.out.next HX0.out)).mono ?_
  rintro r w1 ⟨hr, hx⟩
  have BX := (Blk.new w #[.int .i64 0, .slice none 0 0, .slice none 0 0, .slice none 0 0, .slice none 0 0, .slice none 0 0] 29 _ rfl).next hx
  have HX1 : Hid (Nx w w1) := HX0.out.trans hx
  have HLT : Hid (w.heap.size < w1.heap.size) := BX.lt
  clear hx
  rcases hr with ⟨hg, rfl⟩ | ⟨hg, hb, rfl⟩ | ⟨hg, sa, sn, sc, ws, C, bl, len, par, fl, mv, rfl, hS⟩
  · have HB : Hid (BuiltI rs 12 auZ) := Or.inl ⟨hg, rfl, rfl⟩
    clear hg
    have k0 : _ = some (Value.int .i64 0) := BX.cell (i := 0) rfl
    have z0 := BX.frozen 0
    have k1 : _ = some (Value.slice none 0 0) := BX.cell (i := 1) rfl
    have z1 := BX.frozen 1
    have k2 : _ = some (Value.slice none 0 0) := BX.cell (i := 2) rfl
    have z2 := BX.frozen 2
    have k3 : _ = some (Value.slice none 0 0) := BX.cell (i := 3) rfl
    have z3 := BX.frozen 3
    have k4 : _ = some (Value.slice none 0 0) := BX.cell (i := 4) rfl
    have z4 := BX.frozen 4
    have k5 : _ = some (Value.slice none 0 0) := BX.cell (i := 5) rfl
    have z5 := BX.frozen 5
    go_wp2
    have BR' := ((((((BX).set 0 (.int .i64 12)).set 1 (.slice none 0 0)).set 2 (.slice none 0 0)).set 3 (.slice none 0 0)).set 4 (.slice none 0 0)).set 5 (.slice none 0 0)
    have q0 : _ = some (Value.int .i64 12) := BR'.cell (i := 0) rfl
    have q1 : _ = some (Value.slice none 0 0) := BR'.cell (i := 1) rfl
    have q2 : _ = some (Value.slice none 0 0) := BR'.cell (i := 2) rfl
    have q3 : _ = some (Value.slice none 0 0) := BR'.cell (i := 3) rfl
    have q4 : _ = some (Value.slice none 0 0) := BR'.cell (i := 4) rfl
    have q5 : _ = some (Value.slice none 0 0) := BR'.cell (i := 5) rfl
    clear k0 k1 k2 k3 k4 k5 BR'
    refine bodyPost_ret (v := .agg #[.int .i64 12, .slice none 0 0, .slice none 0 0, .slice none 0 0, .slice none 0 0, .slice none 0 0]) (by simp [results, Try.results10, go_sem, q0, q1, q2, q3, q4, q5]) rfl ?_
    exact ⟨⟨12, _, _, _, _, _, _, _, _, _, _, _, _, _, _, _, auZ, rfl, HB.out, O5.nil _ _⟩, (Below.setCell (Below.setCell (Below.setCell (Below.setCell (Below.setCell (Below.setCell HX1.out (Nat.le_refl _) _) (Nat.le_refl _) _) (Nat.le_refl _) _) (Nat.le_refl _) _) (Nat.le_refl _) _) (Nat.le_refl _) _)⟩
  · have HB : Hid (BuiltI rs 13 auZ) := Or.inr (Or.inl ⟨hg, hb, rfl, rfl⟩)
    clear hg hb
    have k0 : _ = some (Value.int .i64 0) := BX.cell (i := 0) rfl
    have z0 := BX.frozen 0
    have k1 : _ = some (Value.slice none 0 0) := BX.cell (i := 1) rfl
    have z1 := BX.frozen 1
    have k2 : _ = some (Value.slice none 0 0) := BX.cell (i := 2) rfl
    have z2 := BX.frozen 2
    have k3 : _ = some (Value.slice none 0 0) := BX.cell (i := 3) rfl
    have z3 := BX.frozen 3
    have k4 : _ = some (Value.slice none 0 0) := BX.cell (i := 4) rfl
    have z4 := BX.frozen 4
    have k5 : _ = some (Value.slice none 0 0) := BX.cell (i := 5) rfl
    have z5 := BX.frozen 5
    go_wp2
    have BR' := ((((((BX).set 0 (.int .i64 13)).set 1 (.slice none 0 0)).set 2 (.slice none 0 0)).set 3 (.slice none 0 0)).set 4 (.slice none 0 0)).set 5 (.slice none 0 0)
    have q0 : _ = some (Value.int .i64 13) := BR'.cell (i := 0) rfl
    have q1 : _ = some (Value.slice none 0 0) := BR'.cell (i := 1) rfl
    have q2 : _ = some (Value.slice none 0 0) := BR'.cell (i := 2) rfl
    have q3 : _ = some (Value.slice none 0 0) := BR'.cell (i := 3) rfl
    have q4 : _ = some (Value.slice none 0 0) := BR'.cell (i := 4) rfl
    have q5 : _ = some (Value.slice none 0 0) := BR'.cell (i := 5) rfl
    clear k0 k1 k2 k3 k4 k5 BR'
    refine bodyPost_ret (v := .agg #[.int .i64 13, .slice none 0 0, .slice none 0 0, .slice none 0 0, .slice none 0 0, .slice none 0 0]) (by simp [results, Try.results10, go_sem, q0, q1, q2, q3, q4, q5]) rfl ?_
    exact ⟨⟨13, _, _, _, _, _, _, _, _, _, _, _, _, _, _, _, auZ, rfl, HB.out, O5.nil _ _⟩, (Below.setCell (Below.setCell (Below.setCell (Below.setCell (Below.setCell (Below.setCell HX1.out (Nat.le_refl _) _) (Nat.le_refl _) _) (Nat.le_refl _) _) (Nat.le_refl _) _) (Nat.le_refl _) _) (Nat.le_refl _) _)⟩
  · have HB : Hid (BuiltI rs 0 (autoOf ws (mustS rs) (badS rs))) := Or.inr (Or.inr ⟨hg, ws, hS.le, hS.ok.asc, hS.mem, rfl, rfl⟩)
    have HS : Hid (SN rs w1 (.slice sa sn sc) ws C bl len par fl mv) := hS
    clear hg hS
    go_wp2_with fail
    refine (writeAuto_any C _ w1 ws (mustS rs) (badS rs) bl len par fl mv HS.out.own HS.out.nr HS.out.le HS.out.ok.pos HS.out.pa HS.out.fa).mono ?_
    rintro r w2 ⟨⟨a0, n0, c0, a1, n1, c1, a2, n2, c2, a3, n3, c3, a4, n4, c4, rfl, hO⟩, hx⟩
    have BX2 := BX.next hx
    have HX2 : Hid (Nx w w2) := HX1.out.trans hx
    have HO : Hid (O5 w1.heap.size w2 (.slice a0 n0 c0) (.slice a1 n1 c1) (.slice a2 n2 c2) (.slice a3 n3 c3) (.slice a4 n4 c4) (autoOf ws (mustS rs) (badS rs))) := hO
    clear hx hO BX HS
    have k0 : _ = some (Value.int .i64 0) := BX2.cell (i := 0) rfl
    have z0 := BX2.frozen 0
    have k1 : _ = some (Value.slice none 0 0) := BX2.cell (i := 1) rfl
    have z1 := BX2.frozen 1
    have k2 : _ = some (Value.slice none 0 0) := BX2.cell (i := 2) rfl
    have z2 := BX2.frozen 2
    have k3 : _ = some (Value.slice none 0 0) := BX2.cell (i := 3) rfl
    have z3 := BX2.frozen 3
    have k4 : _ = some (Value.slice none 0 0) := BX2.cell (i := 4) rfl
    have z4 := BX2.frozen 4
    have k5 : _ = some (Value.slice none 0 0) := BX2.cell (i := 5) rfl
    have z5 := BX2.frozen 5
    go_wp2
    have BR' := ((((((BX2).set 0 (.int .i64 0)).set 1 (.slice a0 n0 c0)).set 2 (.slice a1 n1 c1)).set 3 (.slice a2 n2 c2)).set 4 (.slice a3 n3 c3)).set 5 (.slice a4 n4 c4)
    have q0 : _ = some (Value.int .i64 0) := BR'.cell (i := 0) rfl
    have q1 : _ = some (Value.slice a0 n0 c0) := BR'.cell (i := 1) rfl
    have q2 : _ = some (Value.slice a1 n1 c1) := BR'.cell (i := 2) rfl
    have q3 : _ = some (Value.slice a2 n2 c2) := BR'.cell (i := 3) rfl
    have q4 : _ = some (Value.slice a3 n3 c3) := BR'.cell (i := 4) rfl
    have q5 : _ = some (Value.slice a4 n4 c4) := BR'.cell (i := 5) rfl
    clear k0 k1 k2 k3 k4 k5 BR'
    refine bodyPost_ret (v := .agg #[.int .i64 0, .slice a0 n0 c0, .slice a1 n1 c1, .slice a2 n2 c2, .slice a3 n3 c3, .slice a4 n4 c4]) (by simp [results, Try.results10, go_sem, q0, q1, q2, q3, q4, q5]) rfl ?_
    have hk5 : ∀ (wq : World) (i : Nat) (u : Value), O5 w1.heap.size wq (.slice a0 n0 c0) (.slice a1 n1 c1) (.slice a2 n2 c2) (.slice a3 n3 c3) (.slice a4 n4 c4) (autoOf ws (mustS rs) (badS rs)) → O5 w1.heap.size (wq.setCell ⟨w.heap.size, i, none⟩ u) (.slice a0 n0 c0) (.slice a1 n1 c1) (.slice a2 n2 c2) (.slice a3 n3 c3) (.slice a4 n4 c4) (autoOf ws (mustS rs) (badS rs)) := fun wq i u h => ⟨own_store h.o0 HLT.out _ _, own_store h.o1 HLT.out _ _, own_store h.o2 HLT.out _ _, own_store h.o3 HLT.out _ _, own_store h.o4 HLT.out _ _, h.a01, h.a02, h.a03, h.a12, h.a13, h.a23⟩
    exact ⟨⟨0, a0, n0, c0, a1, n1, c1, a2, n2, c2, a3, n3, c3, a4, n4, c4, autoOf ws (mustS rs) (badS rs), rfl, HB.out, O5.base (hk5 _ _ _ (hk5 _ _ _ (hk5 _ _ _ (hk5 _ _ _ (hk5 _ _ _ (hk5 _ _ _ HO.out)))))) (Nat.le_of_lt HLT.out)⟩, (Below.setCell (Below.setCell (Below.setCell (Below.setCell (Below.setCell (Below.setCell HX2.out (Nat.le_refl _) _) (Nat.le_refl _) _) (Nat.le_refl _) _) (Nat.le_refl _) _) (Nat.le_refl _) _) (Nat.le_refl _) _)⟩
end Go.Proofs.Ytifefpeefcjabaa
