import Derived.Test.YtifefpeefcjabaaCE
import Derived.Test.YtifefpeefcjabaaDF
namespace Go.Proofs.Ytifefpeefcjabaa
open Go.RowKit Go.Sort Go.Maps
set_option linter.unusedVariables false
set_option maxRecDepth 100000

def WrE (ws : List (List Int)) (mu : List Int → Int) (bd : List Int → Bool) (w w' : World) (e : Ending) : Prop := ∃ (a0 : Option Addr) (n0 c0 : Nat) (a1 : Option Addr) (n1 c1 : Nat) (a2 : Option Addr) (n2 c2 : Nat) (a3 : Option Addr) (n3 c3 : Nat) (a4 : Option Addr) (n4 c4 : Nat), e = .returned (.agg #[.slice a0 n0 c0, .slice a1 n1 c1, .slice a2 n2 c2, .slice a3 n3 c3, .slice a4 n4 c4]) ∧ O5 w.heap.size w' (.slice a0 n0 c0) (.slice a1 n1 c1) (.slice a2 n2 c2) (.slice a3 n3 c3) (.slice a4 n4 c4) (autoOf ws mu bd)

set_option maxHeartbeats 8000000 in
theorem writeAuto_any (C : Nat) (v : Value) (w : World) (ws : List (List Int)) (mu : List Int → Int) (bd : List Int → Bool) (bl : Nat → Nat) (len : Nat → Int) (par fl mv : Nat → Value) (hO : OwnP C w v ((List.range ws.length).map bl)) (h : NR ws.length w bl (fun s => (s : Int)) len (fun s => lastE (wd ws s)) (fun s => mu (wd ws s)) (fun s => bd (wd ws s)) par fl mv) (hn : ws.length ≤ 2000) (hnp : 0 < ws.length)
    (hp : ∀ s, s < ws.length → (par s = .pointer none ∧ fPa ws (wd ws s) = -1) ∨ ∃ t, t < ws.length ∧ par s = ptr (bl t) ∧ fPa ws (wd ws s) = (t : Nat)) (hf : ∀ s, s < ws.length → (fl s = .pointer none ∧ fFa ws (wd ws s) = -1) ∨ ∃ t, t < ws.length ∧ fl s = ptr (bl t) ∧ fFa ws (wd ws s) = (t : Nat)) :
    Calls Try.prog 36 #[v] w fun e w' => WrE ws mu bd w w' e ∧ Nx w w' := by
  obtain ⟨ii, hi, hz0, hz1, hz2⟩ := info_parts infoInt
  obtain ⟨jj, hj0, hj1, hj2, hj3⟩ := info_parts infoBool
  have HO : Hid (OwnP C w v ((List.range ws.length).map bl)) := hO
  have HNR : Hid (NR ws.length w bl (fun s => (s : Int)) len (fun s => lastE (wd ws s)) (fun s => mu (wd ws s)) (fun s => bd (wd ws s)) par fl mv) := h
  have HPA : Hid (∀ s, s < ws.length → (par s = .pointer none ∧ fPa ws (wd ws s) = -1) ∨ ∃ t, t < ws.length ∧ par s = ptr (bl t) ∧ fPa ws (wd ws s) = (t : Nat)) := hp
  have HFA : Hid (∀ s, s < ws.length → (fl s = .pointer none ∧ fFa ws (wd ws s) = -1) ∨ ∃ t, t < ws.length ∧ fl s = ptr (bl t) ∧ fFa ws (wd ws s) = (t : Nat)) := hf
  have HX2 : Hid (Nx w (w.alloc (.cells #[.slice none 0 0, .slice none 0 0, .slice none 0 0, .slice none 0 0, .slice none 0 0] 27))) := box1 _ _
  have HBX : Hid (Blk (w.alloc (.cells #[.slice none 0 0, .slice none 0 0, .slice none 0 0, .slice none 0 0, .slice none 0 0] 27)) w.heap.size #[.slice none 0 0, .slice none 0 0, .slice none 0 0, .slice none 0 0, .slice none 0 0]) := Blk.new w _ _ _ rfl
  have HRS0 : Hid (RS (w.heap.size + 1) ((w.alloc (.cells #[.slice none 0 0, .slice none 0 0, .slice none 0 0, .slice none 0 0, .slice none 0 0] 27)).alloc (.cells #[.slice none 0 0, .slice none 0 0, .slice none 0 0, .slice none 0 0, .slice none 0 0] 27)) (auK ws (fPa ws) lastE (fFa ws) mu bd 0 0 0 0 0)) := by
    have hR := R5.start (w.alloc (.cells #[.slice none 0 0, .slice none 0 0, .slice none 0 0, .slice none 0 0, .slice none 0 0] 27)) 27
    rw [size_alloc'] at hR
    exact RS.of (by simpa [auK, auZ] using hR)
  have HN0 : Hid (Below (w.heap.size + 1) (w.alloc (.cells #[.slice none 0 0, .slice none 0 0, .slice none 0 0, .slice none 0 0, .slice none 0 0] 27)) ((w.alloc (.cells #[.slice none 0 0, .slice none 0 0, .slice none 0 0, .slice none 0 0, .slice none 0 0] 27)).alloc (.cells #[.slice none 0 0, .slice none 0 0, .slice none 0 0, .slice none 0 0, .slice none 0 0] 27))) := Below.alloc (Below.refl _ _) (by rw [size_alloc']; exact Nat.le_refl _) _
  obtain ⟨va, vc, rfl⟩ := hO.slice
  rw [List.length_map, List.length_range] at *
  obtain ⟨g, hag, _⟩ := HO.out.cell (i := 0) (by simp; exact hnp)
  subst hag
  generalize hzn : ws.length = n at *
  have HZ : Hid (ws.length = n) := hzn
  have HCELL : Hid (∀ i, i < n → w.cell? ⟨g, i, none⟩ = some (.pointer (some ⟨bl i, 0, none⟩))) := by
    intro i h2
    obtain ⟨g', hg', hc'⟩ := HO.out.cell (i := i) (by simp; exact h2)
    rw [nat_range bl h2] at hc'
    have : g = g' := by simpa using hg'
    subst this
    exact hc'
  clear hO h hp hf hzn
  go_enter Try.func36, Try.ntmps36
  go_wp2
  generalize w.alloc (.cells #[.slice none 0 0, .slice none 0 0, .slice none 0 0, .slice none 0 0, .slice none 0 0] 27) = w2 at *
  go_loopw [5, 8] (fun _ i wr => ∃ k : Nat, k ≤ n ∧ i = .int .i64 k ∧ Hid (RS (w.heap.size + 1) wr (auK ws (fPa ws) lastE (fFa ws) mu bd k k k k k)) ∧ Hid (Below (w.heap.size + 1) w2 wr)) (fun _ i _ => n - (intOf i).toNat)
  case atStart => exact ⟨0, Nat.zero_le _, rfl, HRS0, HN0⟩
  clear HRS0 HN0
  obtain ⟨k, hkn, rfl, HRS, HN⟩ := hrel
  have HW : Hid (Nx w wr) := Below.trans HX2.out (Below.mono HN.out (Nat.le_succ _))
  by_cases hlt : k < n
  case neg =>
    have ek : n = k := by omega
    have hnl : ¬ (k : Int) < n := by omega
    obtain ⟨a0, n0, c0, a1, n1, c1, a2, n2, c2, a3, n3, c3, a4, n4, c4, hR⟩ := HRS.out
    have HO5 : Hid (O5 (w.heap.size + 1) wr (.slice a0 n0 c0) (.slice a1 n1 c1) (.slice a2 n2 c2) (.slice a3 n3 c3) (.slice a4 n4 c4) (autoOf ws mu bd)) := by
      unfold Hid
      rw [← auK_all, HZ.out, ek]
      exact hR.five.base (Nat.le_succ _)
    have BB := HBX.out.below HN.out (Nat.lt_succ_self _)
    have k0 : _ = some (Value.slice none 0 0) := BB.cell (i := 0) rfl
    have z0 := BB.frozen 0
    have y0 : _ = some (Value.slice a0 n0 c0) := hR.bx.cell (i := 0) rfl
    have k1 : _ = some (Value.slice none 0 0) := BB.cell (i := 1) rfl
    have z1 := BB.frozen 1
    have y1 : _ = some (Value.slice a1 n1 c1) := hR.bx.cell (i := 1) rfl
    have k2 : _ = some (Value.slice none 0 0) := BB.cell (i := 2) rfl
    have z2 := BB.frozen 2
    have y2 : _ = some (Value.slice a2 n2 c2) := hR.bx.cell (i := 2) rfl
    have k3 : _ = some (Value.slice none 0 0) := BB.cell (i := 3) rfl
    have z3 := BB.frozen 3
    have y3 : _ = some (Value.slice a3 n3 c3) := hR.bx.cell (i := 3) rfl
    have k4 : _ = some (Value.slice none 0 0) := BB.cell (i := 4) rfl
    have z4 := BB.frozen 4
    have y4 : _ = some (Value.slice a4 n4 c4) := hR.bx.cell (i := 4) rfl
    clear hR ek HRS
    go_wp2
    have BR' := (((((BB).set 0 (.slice a0 n0 c0)).set 1 (.slice a1 n1 c1)).set 2 (.slice a2 n2 c2)).set 3 (.slice a3 n3 c3)).set 4 (.slice a4 n4 c4)
    have q0 : _ = some (Value.slice a0 n0 c0) := BR'.cell (i := 0) rfl
    have q1 : _ = some (Value.slice a1 n1 c1) := BR'.cell (i := 1) rfl
    have q2 : _ = some (Value.slice a2 n2 c2) := BR'.cell (i := 2) rfl
    have q3 : _ = some (Value.slice a3 n3 c3) := BR'.cell (i := 3) rfl
    have q4 : _ = some (Value.slice a4 n4 c4) := BR'.cell (i := 4) rfl
    clear k0 k1 k2 k3 k4 BR'
    refine bodyPost_ret (v := .agg #[.slice a0 n0 c0, .slice a1 n1 c1, .slice a2 n2 c2, .slice a3 n3 c3, .slice a4 n4 c4]) (by simp [results, Try.results36, go_sem, q0, q1, q2, q3, q4]) rfl ?_
    have hk5 : ∀ (wq : World) (i : Nat) (u : Value), O5 (w.heap.size + 1) wq (.slice a0 n0 c0) (.slice a1 n1 c1) (.slice a2 n2 c2) (.slice a3 n3 c3) (.slice a4 n4 c4) (autoOf ws mu bd) → O5 (w.heap.size + 1) (wq.setCell ⟨w.heap.size, i, none⟩ u) (.slice a0 n0 c0) (.slice a1 n1 c1) (.slice a2 n2 c2) (.slice a3 n3 c3) (.slice a4 n4 c4) (autoOf ws mu bd) := fun wq i u h => ⟨own_store h.o0 (Nat.lt_succ_self _) _ _, own_store h.o1 (Nat.lt_succ_self _) _ _, own_store h.o2 (Nat.lt_succ_self _) _ _, own_store h.o3 (Nat.lt_succ_self _) _ _, own_store h.o4 (Nat.lt_succ_self _) _ _, h.a01, h.a02, h.a03, h.a12, h.a13, h.a23⟩
    exact ⟨⟨a0, n0, c0, a1, n1, c1, a2, n2, c2, a3, n3, c3, a4, n4, c4, rfl, O5.base (hk5 _ _ _ (hk5 _ _ _ (hk5 _ _ _ (hk5 _ _ _ (hk5 _ _ _ HO5.out))))) (Nat.le_succ _)⟩, (Below.setCell (Below.setCell (Below.setCell (Below.setCell (Below.setCell HW.out (Nat.le_refl _) _) (Nat.le_refl _) _) (Nat.le_refl _) _) (Nat.le_refl _) _) (Nat.le_refl _) _)⟩
  have hlt' : (k : Int) < n := by omega
  have x0 := cellq HW.out (HCELL.out k hlt)
  have HKN : Hid (k < ws.length) := by unfold Hid; rw [HZ.out]; exact hlt
  have hk2 : k ≤ 2000 := by omega
  go_upto_region 5 with fail
  go_cut [5, 8] from 8 to 59 (fun s5 s8 wc => s5 = .pointer (some ⟨bl k, 0, none⟩) ∧ s8 = .int .i64 k ∧ Hid (RS (w.heap.size + 1) wc (auK ws (fPa ws) lastE (fFa ws) mu bd (k + 1) k k k k)) ∧ Hid (Below (w.heap.size + 1) w2 wc))
  case first =>
    obtain ⟨a0, n0, c0, a1, n1, c1, a2, n2, c2, a3, n3, c3, a4, n4, c4, hR0⟩ := HRS.out
    have R4 : Hid _ := hR0
    have y4 : _ = some (Value.slice a0 n0 c0) := hR0.bx.cell (i := 0) rfl
    have z4 := hR0.bx.frozen 0
    have ND := HNR.out.nd k hlt
    have s1 : wr.cell? ⟨bl k, 5, none⟩ = some (par k) := cellq HW.out (ND.cell (i := 5) rfl)
    clear hR0 ND
    have HNUM : Hid (∀ wq : World, Nx w wq → Calls Try.prog 48 #[par k] wq fun r w' => r = .returned (.int .i64 (fPa ws (wd ws k))) ∧ w' = wq) := by
      intro wq hq
      rcases HPA.out k hlt with ⟨h1, h2⟩ | ⟨t, ht, h1, h2⟩
      · rw [h1, h2]; exact numberOf_nil wq
      · rw [h1, h2]; exact numberOf_any _ _ _ _ _ _ _ _ _ wq ((HNR.out.nd t ht).next hq)
    have y6 : ((wr.alloc (.cells #[.int .i64 (fPa ws (wd ws k))] 2)).drew).cell? ⟨w.heap.size + 1, 0, none⟩ = some (.slice a0 n0 c0) := cellq (box1 _ _) y4
    go_region_law (first | (go_simp; go_at_call 48; refine (HNUM.out _ (by exact HW.out.drew)).mono ?_; rintro e w4 ⟨rfl, rfl⟩) | (refine step_append_at rfl (.tmp 13) (.tmp 19) 24 rfl 2 ii (.int .i64 0) 1 8 Try.underlying24 hi hz0 hz1 hz2 rfl (by decide) (w.heap.size + 1 + 1) (.slice a0 n0 c0) _ _ (by simp [Act.eval]) (show ((wr.alloc (.cells #[.int .i64 (fPa ws (wd ws k))] 2)).drew).ownsRow _ _ _ _ _ _ from World.ownsRow.alloc R4.out.o0 _) ⟨wr.heap.size, 0, none⟩ 1 1 [.int .i64 (fPa ws (wd ws k))] (by simp [Act.eval]) rfl (fun j u hj => show ((wr.alloc (.cells #[.int .i64 (fPa ws (wd ws k))] 2)).drew).cell? _ = _ from new_cells wr _ _ _ rfl j u hj) (by intro u hu; simp at hu; subst hu; rfl) (by have := auK_len (ws := ws) (k := k) hk2 (fPa ws); unfold maxLen; simp only [auK]; omega) (by have := auK_len (ws := ws) (k := k) hk2 (fPa ws); simp only [auK]; omega) (by have := R4.out.bx.lt; show _ ≤ (wr.alloc (.cells #[.int .i64 (fPa ws (wd ws k))] 2)).heap.size; rw [size_alloc']; omega) ?_; intro v' w' hown hgrow0 hat; have hgrow : (wr.alloc (.cells #[.int .i64 (fPa ws (wd ws k))] 2)).grownBy w' (Value.slice a0 n0 c0).ownBlock := ⟨hgrow0.os, hgrow0.tape, hgrow0.output, hgrow0.size, hgrow0.block⟩; obtain ⟨ra, rn, rc, hrs⟩ := own_slice hown; subst hrs; have hbx := (R4.out.box0 _ hgrow).1; have hfz := (R4.out.box0 _ hgrow).2; have R' : Hid _ := R4.out.app0 _ hown hgrow hat; have HGR : Hid _ := hgrow; clear hown hgrow hgrow0 hat))
    all_goals go_wp2
    all_goals go_meet
    all_goals exact ⟨rfl, rfl, RS.of0 R'.out HKN.out rfl, R4.out.low0 _ HGR.out HN.out⟩
  case rest =>
  clear HRS HN HW x0
  obtain ⟨hs5, hs8, HRS, HN⟩ := hcut
  subst hs5 hs8
  have HW : Hid (Nx w wc) := Below.trans HX2.out (Below.mono HN.out (Nat.le_succ _))
  have x0 : True := trivial
  go_upto_region 6 with fail
  go_cut [5, 8] from 8 to 59 (fun s5 s8 wc => s5 = .pointer (some ⟨bl k, 0, none⟩) ∧ s8 = .int .i64 k ∧ Hid (RS (w.heap.size + 1) wc (auK ws (fPa ws) lastE (fFa ws) mu bd (k + 1) (k + 1) k k k)) ∧ Hid (Below (w.heap.size + 1) w2 wc))
  case first =>
    obtain ⟨a0, n0, c0, a1, n1, c1, a2, n2, c2, a3, n3, c3, a4, n4, c4, hR0⟩ := HRS.out
    have R4 : Hid _ := hR0
    have y4 : _ = some (Value.slice a1 n1 c1) := hR0.bx.cell (i := 1) rfl
    have z4 := hR0.bx.frozen 1
    have ND := HNR.out.nd k hlt
    have s1 : wc.cell? ⟨bl k, 2, none⟩ = some (Value.int .i64 (lastE (wd ws k))) := cellq HW.out (ND.cell (i := 2) rfl)
    clear hR0 ND
    have y6 : ((wc.alloc (.cells #[.int .i64 (lastE (wd ws k))] 2)).drew).cell? ⟨w.heap.size + 1, 1, none⟩ = some (.slice a1 n1 c1) := cellq (box1 _ _) y4
    go_region_law (refine step_append_at rfl (.tmp 23) (.tmp 28) 24 rfl 2 ii (.int .i64 0) 1 8 Try.underlying24 hi hz0 hz1 hz2 rfl (by decide) (w.heap.size + 1 + 1) (.slice a1 n1 c1) _ _ (by simp [Act.eval]) (show ((wc.alloc (.cells #[.int .i64 (lastE (wd ws k))] 2)).drew).ownsRow _ _ _ _ _ _ from World.ownsRow.alloc R4.out.o1 _) ⟨wc.heap.size, 0, none⟩ 1 1 [.int .i64 (lastE (wd ws k))] (by simp [Act.eval]) rfl (fun j u hj => show ((wc.alloc (.cells #[.int .i64 (lastE (wd ws k))] 2)).drew).cell? _ = _ from new_cells wc _ _ _ rfl j u hj) (by intro u hu; simp at hu; subst hu; rfl) (by have := auK_len (ws := ws) (k := k) hk2 lastE; unfold maxLen; simp only [auK]; omega) (by have := auK_len (ws := ws) (k := k) hk2 lastE; simp only [auK]; omega) (by have := R4.out.bx.lt; show _ ≤ (wc.alloc (.cells #[.int .i64 (lastE (wd ws k))] 2)).heap.size; rw [size_alloc']; omega) ?_; intro v' w' hown hgrow0 hat; have hgrow : (wc.alloc (.cells #[.int .i64 (lastE (wd ws k))] 2)).grownBy w' (Value.slice a1 n1 c1).ownBlock := ⟨hgrow0.os, hgrow0.tape, hgrow0.output, hgrow0.size, hgrow0.block⟩; obtain ⟨ra, rn, rc, hrs⟩ := own_slice hown; subst hrs; have hbx := (R4.out.box1 _ hgrow).1; have hfz := (R4.out.box1 _ hgrow).2; have R' : Hid _ := R4.out.app1 _ hown hgrow hat; have HGR : Hid _ := hgrow; clear hown hgrow hgrow0 hat)
    all_goals go_wp2
    all_goals go_meet
    all_goals exact ⟨rfl, rfl, RS.of1 R'.out HKN.out rfl, R4.out.low1 _ HGR.out HN.out⟩
  case rest =>
  clear HRS HN HW x0
  obtain ⟨hs5, hs8, HRS, HN⟩ := hcut
  subst hs5 hs8
  have HW : Hid (Nx w wc) := Below.trans HX2.out (Below.mono HN.out (Nat.le_succ _))
  have x0 : True := trivial
  go_upto_region 7 with fail
  go_cut [5, 8] from 8 to 59 (fun s5 s8 wc => s5 = .pointer (some ⟨bl k, 0, none⟩) ∧ s8 = .int .i64 k ∧ Hid (RS (w.heap.size + 1) wc (auK ws (fPa ws) lastE (fFa ws) mu bd (k + 1) (k + 1) (k + 1) k k)) ∧ Hid (Below (w.heap.size + 1) w2 wc))
  case first =>
    obtain ⟨a0, n0, c0, a1, n1, c1, a2, n2, c2, a3, n3, c3, a4, n4, c4, hR0⟩ := HRS.out
    have R4 : Hid _ := hR0
    have y4 : _ = some (Value.slice a2 n2 c2) := hR0.bx.cell (i := 2) rfl
    have z4 := hR0.bx.frozen 2
    have ND := HNR.out.nd k hlt
    have s1 : wc.cell? ⟨bl k, 6, none⟩ = some (fl k) := cellq HW.out (ND.cell (i := 6) rfl)
    clear hR0 ND
    have HNUM : Hid (∀ wq : World, Nx w wq → Calls Try.prog 48 #[fl k] wq fun r w' => r = .returned (.int .i64 (fFa ws (wd ws k))) ∧ w' = wq) := by
      intro wq hq
      rcases HFA.out k hlt with ⟨h1, h2⟩ | ⟨t, ht, h1, h2⟩
      · rw [h1, h2]; exact numberOf_nil wq
      · rw [h1, h2]; exact numberOf_any _ _ _ _ _ _ _ _ _ wq ((HNR.out.nd t ht).next hq)
    have y6 : ((wc.alloc (.cells #[.int .i64 (fFa ws (wd ws k))] 2)).drew).cell? ⟨w.heap.size + 1, 2, none⟩ = some (.slice a2 n2 c2) := cellq (box1 _ _) y4
    go_region_law (first | (go_simp; go_at_call 48; refine (HNUM.out _ (by exact HW.out.drew)).mono ?_; rintro e w4 ⟨rfl, rfl⟩) | (refine step_append_at rfl (.tmp 32) (.tmp 38) 24 rfl 2 ii (.int .i64 0) 1 8 Try.underlying24 hi hz0 hz1 hz2 rfl (by decide) (w.heap.size + 1 + 1) (.slice a2 n2 c2) _ _ (by simp [Act.eval]) (show ((wc.alloc (.cells #[.int .i64 (fFa ws (wd ws k))] 2)).drew).ownsRow _ _ _ _ _ _ from World.ownsRow.alloc R4.out.o2 _) ⟨wc.heap.size, 0, none⟩ 1 1 [.int .i64 (fFa ws (wd ws k))] (by simp [Act.eval]) rfl (fun j u hj => show ((wc.alloc (.cells #[.int .i64 (fFa ws (wd ws k))] 2)).drew).cell? _ = _ from new_cells wc _ _ _ rfl j u hj) (by intro u hu; simp at hu; subst hu; rfl) (by have := auK_len (ws := ws) (k := k) hk2 (fFa ws); unfold maxLen; simp only [auK]; omega) (by have := auK_len (ws := ws) (k := k) hk2 (fFa ws); simp only [auK]; omega) (by have := R4.out.bx.lt; show _ ≤ (wc.alloc (.cells #[.int .i64 (fFa ws (wd ws k))] 2)).heap.size; rw [size_alloc']; omega) ?_; intro v' w' hown hgrow0 hat; have hgrow : (wc.alloc (.cells #[.int .i64 (fFa ws (wd ws k))] 2)).grownBy w' (Value.slice a2 n2 c2).ownBlock := ⟨hgrow0.os, hgrow0.tape, hgrow0.output, hgrow0.size, hgrow0.block⟩; obtain ⟨ra, rn, rc, hrs⟩ := own_slice hown; subst hrs; have hbx := (R4.out.box2 _ hgrow).1; have hfz := (R4.out.box2 _ hgrow).2; have R' : Hid _ := R4.out.app2 _ hown hgrow hat; have HGR : Hid _ := hgrow; clear hown hgrow hgrow0 hat))
    all_goals go_wp2
    all_goals go_meet
    all_goals exact ⟨rfl, rfl, RS.of2 R'.out HKN.out rfl, R4.out.low2 _ HGR.out HN.out⟩
  case rest =>
  clear HRS HN HW x0
  obtain ⟨hs5, hs8, HRS, HN⟩ := hcut
  subst hs5 hs8
  have HW : Hid (Nx w wc) := Below.trans HX2.out (Below.mono HN.out (Nat.le_succ _))
  have x0 : True := trivial
  go_upto_region 8 with fail
  go_cut [5, 8] from 8 to 59 (fun s5 s8 wc => s5 = .pointer (some ⟨bl k, 0, none⟩) ∧ s8 = .int .i64 k ∧ Hid (RS (w.heap.size + 1) wc (auK ws (fPa ws) lastE (fFa ws) mu bd (k + 1) (k + 1) (k + 1) (k + 1) k)) ∧ Hid (Below (w.heap.size + 1) w2 wc))
  case first =>
    obtain ⟨a0, n0, c0, a1, n1, c1, a2, n2, c2, a3, n3, c3, a4, n4, c4, hR0⟩ := HRS.out
    have R4 : Hid _ := hR0
    have y4 : _ = some (Value.slice a3 n3 c3) := hR0.bx.cell (i := 3) rfl
    have z4 := hR0.bx.frozen 3
    have ND := HNR.out.nd k hlt
    have s1 : wc.cell? ⟨bl k, 3, none⟩ = some (Value.int .i64 (mu (wd ws k))) := cellq HW.out (ND.cell (i := 3) rfl)
    clear hR0 ND
    have y6 : ((wc.alloc (.cells #[.int .i64 (mu (wd ws k))] 2)).drew).cell? ⟨w.heap.size + 1, 3, none⟩ = some (.slice a3 n3 c3) := cellq (box1 _ _) y4
    go_region_law (refine step_append_at rfl (.tmp 42) (.tmp 47) 24 rfl 2 ii (.int .i64 0) 1 8 Try.underlying24 hi hz0 hz1 hz2 rfl (by decide) (w.heap.size + 1 + 1) (.slice a3 n3 c3) _ _ (by simp [Act.eval]) (show ((wc.alloc (.cells #[.int .i64 (mu (wd ws k))] 2)).drew).ownsRow _ _ _ _ _ _ from World.ownsRow.alloc R4.out.o3 _) ⟨wc.heap.size, 0, none⟩ 1 1 [.int .i64 (mu (wd ws k))] (by simp [Act.eval]) rfl (fun j u hj => show ((wc.alloc (.cells #[.int .i64 (mu (wd ws k))] 2)).drew).cell? _ = _ from new_cells wc _ _ _ rfl j u hj) (by intro u hu; simp at hu; subst hu; rfl) (by have := auK_len (ws := ws) (k := k) hk2 mu; unfold maxLen; simp only [auK]; omega) (by have := auK_len (ws := ws) (k := k) hk2 mu; simp only [auK]; omega) (by have := R4.out.bx.lt; show _ ≤ (wc.alloc (.cells #[.int .i64 (mu (wd ws k))] 2)).heap.size; rw [size_alloc']; omega) ?_; intro v' w' hown hgrow0 hat; have hgrow : (wc.alloc (.cells #[.int .i64 (mu (wd ws k))] 2)).grownBy w' (Value.slice a3 n3 c3).ownBlock := ⟨hgrow0.os, hgrow0.tape, hgrow0.output, hgrow0.size, hgrow0.block⟩; obtain ⟨ra, rn, rc, hrs⟩ := own_slice hown; subst hrs; have hbx := (R4.out.box3 _ hgrow).1; have hfz := (R4.out.box3 _ hgrow).2; have R' : Hid _ := R4.out.app3 _ hown hgrow hat; have HGR : Hid _ := hgrow; clear hown hgrow hgrow0 hat)
    all_goals go_wp2
    all_goals go_meet
    all_goals exact ⟨rfl, rfl, RS.of3 R'.out HKN.out rfl, R4.out.low3 _ HGR.out HN.out⟩
  case rest =>
  clear HRS HN HW x0
  obtain ⟨hs5, hs8, HRS, HN⟩ := hcut
  subst hs5 hs8
  have HW : Hid (Nx w wc) := Below.trans HX2.out (Below.mono HN.out (Nat.le_succ _))
  have x0 : True := trivial
  go_upto_region 9 with fail
  obtain ⟨a0, n0, c0, a1, n1, c1, a2, n2, c2, a3, n3, c3, a4, n4, c4, hR0⟩ := HRS.out
  have R4 : Hid _ := hR0
  have y4 : _ = some (Value.slice a4 n4 c4) := hR0.bx.cell (i := 4) rfl
  have z4 := hR0.bx.frozen 4
  have ND := HNR.out.nd k hlt
  have s1 : wc.cell? ⟨bl k, 4, none⟩ = some (Value.bool (bd (wd ws k))) := cellq HW.out (ND.cell (i := 4) rfl)
  clear hR0 ND
  have y6 : ((wc.alloc (.cells #[.bool (bd (wd ws k))] 4)).drew).cell? ⟨w.heap.size + 1, 4, none⟩ = some (.slice a4 n4 c4) := cellq (box1 _ _) y4
  go_region_law (refine step_append_at rfl (.tmp 51) (.tmp 56) 25 rfl 4 jj (.bool false) 1 1 Try.underlying25 hj0 hj1 hj2 hj3 rfl (by decide) (w.heap.size + 1 + 1) (.slice a4 n4 c4) _ _ (by simp [Act.eval]) (show ((wc.alloc (.cells #[.bool (bd (wd ws k))] 4)).drew).ownsRow _ _ _ _ _ _ from World.ownsRow.alloc R4.out.o4 _) ⟨wc.heap.size, 0, none⟩ 1 1 [.bool (bd (wd ws k))] (by simp [Act.eval]) rfl (fun j u hj => show ((wc.alloc (.cells #[.bool (bd (wd ws k))] 4)).drew).cell? _ = _ from new_cells wc _ _ _ rfl j u hj) (by intro u hu; simp at hu; subst hu; rfl) (by have := auK_lenB (ws := ws) (k := k) hk2 bd; unfold maxLen; simp only [auK]; omega) (by have := auK_lenB (ws := ws) (k := k) hk2 bd; simp only [auK]; omega) (by have := R4.out.bx.lt; show _ ≤ (wc.alloc (.cells #[.bool (bd (wd ws k))] 4)).heap.size; rw [size_alloc']; omega) ?_; intro v' w' hown hgrow0 hat; have hgrow : (wc.alloc (.cells #[.bool (bd (wd ws k))] 4)).grownBy w' (Value.slice a4 n4 c4).ownBlock := ⟨hgrow0.os, hgrow0.tape, hgrow0.output, hgrow0.size, hgrow0.block⟩; obtain ⟨ra, rn, rc, hrs⟩ := own_slice hown; subst hrs; have hbx := (R4.out.box4 _ hgrow).1; have hfz := (R4.out.box4 _ hgrow).2; have R' : Hid _ := R4.out.app4 _ hown hgrow hat; have HGR : Hid _ := hgrow; clear hown hgrow hgrow0 hat)
  all_goals go_wp2
  all_goals
    go_roundw
    case rel => exact ⟨k + 1, by omega, by go_num, RS.of4 R'.out HKN.out rfl, R4.out.low4 _ HGR.out HN.out⟩
    case measure => simp [intOf]; omega
end Go.Proofs.Ytifefpeefcjabaa
