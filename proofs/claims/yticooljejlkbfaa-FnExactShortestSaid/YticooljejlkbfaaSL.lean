import Derived.Test.YticooljejlkbfaaSK
namespace Go.Proofs.Yticooljejlkbfaa
open Go.RowKit Go.Sort
set_option linter.unusedVariables false
set_option maxRecDepth 100000

/-- a route in memory -/
def HRt (C : Nat) (w : World) (rc rk : Int) (oa : Option Addr) (on oc : Nat) (r : Rt) : Prop := rc = r.code ∧ rk = r.cost ∧ OwnI C w (.slice oa on oc) r.edges
theorem best_up {ws : List Wk} {t : Int} {old : Rt} {j : Nat} (hj : j < ws.length) : bestW t old (ws.take (j + 1)) = bestOne t (bestW t old (ws.take j)) (wkat ws j) := by
  unfold bestW
  rw [List.take_succ_eq_append_getElem hj, List.foldl_append, wkat_eq hj]
  rfl
theorem last_iat {E : List Int} {m : Nat} (h : E.length = m + 1) (t : Int) : decide (E.getLast? = some t) = decide (iat E m = t) := by
  rw [List.getLast?_eq_getElem?, h, Nat.add_sub_cancel, List.getElem?_eq_getElem (by omega), iat_eq (by omega)]
  simp
/-- the routes under way -/
structure BW (C j : Nat) (t : Int) (w0 w : World) (old : Rt) (ws : List Wk) (rc rk : Int) (oa : Option Addr) (on oc : Nat) : Prop where
  b0 : Blk w w0.heap.size #[.int .i64 rc, .int .i64 rk, .slice oa on oc]
  b1 : Blk w (w0.heap.size + 1) #[.int .i64 0, .int .i64 0, .slice none 0 0]
  rt : HRt C w0 rc rk oa on oc (bestW t old (ws.take j))
  nx : Nx w0 w
theorem BW.next {C j : Nat} {t : Int} {w0 w w1 : World} {old : Rt} {ws : List Wk} {rc rk : Int} {oa : Option Addr} {on oc : Nat} (h : BW C j t w0 w old ws rc rk oa on oc) (k : Nx w w1) : BW C j t w0 w1 old ws rc rk oa on oc :=
  ⟨h.b0.next k, h.b1.next k, h.rt, h.nx.trans k⟩
theorem BW.keep {C j : Nat} {t : Int} {w0 w : World} {old : Rt} {ws : List Wk} {rc rk : Int} {oa : Option Addr} {on oc : Nat} (h : BW C j t w0 w old ws rc rk oa on oc) (e : bestW t old (ws.take (j + 1)) = bestW t old (ws.take j)) : BW C (j + 1) t w0 w old ws rc rk oa on oc := ⟨h.b0, h.b1, by rw [e]; exact h.rt, h.nx⟩
theorem BW.put {C j : Nat} {t : Int} {w0 w : World} {old : Rt} {ws : List Wk} {rc rk : Int} {oa : Option Addr} {on oc : Nat} (h : BW C j t w0 w old ws rc rk oa on oc) {ea : Option Addr} {en ec : Nat} {x : Wk} (hE : OwnI C w0 (.slice ea en ec) x.E) (e : bestW t old (ws.take (j + 1)) = ⟨0, x.c, x.E⟩) :
    BW C (j + 1) t w0 (((w.setCell ⟨w0.heap.size, 0, none⟩ (.int .i64 0)).setCell ⟨w0.heap.size, 1, none⟩ (.int .i64 x.c)).setCell ⟨w0.heap.size, 2, none⟩ (.slice ea en ec)) old ws 0 x.c ea en ec := by
  have hn : Nx w0 (((w.setCell ⟨w0.heap.size, 0, none⟩ (.int .i64 0)).setCell ⟨w0.heap.size, 1, none⟩ (.int .i64 x.c)).setCell ⟨w0.heap.size, 2, none⟩ (.slice ea en ec)) := Below.setCell (Below.setCell (Below.setCell h.nx (Nat.le_refl _) _) (Nat.le_refl _) _) (Nat.le_refl _) _
  refine ⟨((h.b0.set 0 _).set 1 _).set 2 _, ((h.b1.setOther (by omega) _ _).setOther (by omega) _ _).setOther (by omega) _ _, ?_, hn⟩
  rw [e]
  exact ⟨rfl, rfl, hE⟩

set_option maxHeartbeats 8000000 in
theorem l5Best_any (C : Nat) (v : Value) (ws : List Wk) (old : Rt) (rc0 rk0 : Int) (oa0 : Option Addr) (on0 oc0 : Nat) (t : Int) (w : World) (h0 : OwnK C w v ws) (hr : HRt C w rc0 rk0 oa0 on0 oc0 old) (hE : ∀ x ∈ ws, 1 ≤ x.E.length ∧ x.E.length ≤ 1000000) (hl : ws.length ≤ 1000000) :
    Calls Try.prog 16 #[.agg #[.int .i64 rc0, .int .i64 rk0, .slice oa0 on0 oc0], v, .int .i64 t] w fun e w' => (∃ rc rk oa on oc, e = .returned (.agg #[.int .i64 rc, .int .i64 rk, .slice oa on oc]) ∧ HRt C w' rc rk oa on oc (bestW t old ws)) ∧ Nx w w' := by
  have H0 : Hid (OwnK C w v ws) := h0
  have HEL : Hid (∀ x ∈ ws, 1 ≤ x.E.length ∧ x.E.length ≤ 1000000) := hE
  have HB0 : Hid (BW C 0 t w ((w.alloc (.cells #[.int .i64 rc0, .int .i64 rk0, .slice oa0 on0 oc0] 27)).alloc (.cells #[.int .i64 0, .int .i64 0, .slice none 0 0] 27)) old ws rc0 rk0 oa0 on0 oc0) :=
    ⟨(Blk.new w _ _ _ rfl).alloc _, Blk.new _ _ _ _ (by rw [size_alloc']), hr, box2 _ _ _⟩
  obtain ⟨a, c, rfl⟩ := h0.slice
  generalize hz : ws.length = n at *
  have HZ : Hid (ws.length = n) := hz
  clear hz h0 hr hE
  go_enter Try.func16, Try.ntmps16
  go_wp2
  go_loopw [7, 8, 9] (fun i _ _ wr => ∃ (j : Nat) (rc rk : Int) (oa : Option Addr) (on oc : Nat), j ≤ n ∧ i = .int .i64 j ∧ Hid (BW C j t w wr old ws rc rk oa on oc)) (fun i _ _ _ => n - (intOf i).toNat)
  case atStart => exact ⟨0, _, _, _, _, _, Nat.zero_le _, rfl, HB0⟩
  clear HB0
  obtain ⟨j, rc, rk, oa, on, oc, hjn, rfl, HB⟩ := hrel
  by_cases hlt : j < n
  case neg =>
    have ej : j = n := by omega
    have HF : Hid (HRt C w rc rk oa on oc (bestW t old ws)) := by
      unfold Hid
      have e : ws.take j = ws := by rw [ej, ← HZ.out, List.take_length]
      rw [← e]; exact HB.out.rt
    have hnl : ¬ (j : Int) < n := by omega
    have y0 : wr.cell? ⟨w.heap.size, 0, none⟩ = some (.int .i64 rc) := HB.out.b0.cell (i := 0) rfl
    have y1 : wr.cell? ⟨w.heap.size, 1, none⟩ = some (.int .i64 rk) := HB.out.b0.cell (i := 1) rfl
    have y2 : wr.cell? ⟨w.heap.size, 2, none⟩ = some (.slice oa on oc) := HB.out.b0.cell (i := 2) rfl
    have k0 : wr.cell? ⟨w.heap.size + 1, 0, none⟩ = some (.int .i64 0) := HB.out.b1.cell (i := 0) rfl
    have k1 : wr.cell? ⟨w.heap.size + 1, 1, none⟩ = some (.int .i64 0) := HB.out.b1.cell (i := 1) rfl
    have k2 : wr.cell? ⟨w.heap.size + 1, 2, none⟩ = some (.slice none 0 0) := HB.out.b1.cell (i := 2) rfl
    have z0 := HB.out.b1.frozen 0
    have z1 := HB.out.b1.frozen 1
    have z2 := HB.out.b1.frozen 2
    clear ej
    go_wp2
    have BR' := ((HB.out.b1.set 0 (.int .i64 rc)).set 1 (.int .i64 rk)).set 2 (.slice oa on oc)
    have q0 : _ = some (Value.int .i64 rc) := BR'.cell (i := 0) rfl
    have q1 : _ = some (Value.int .i64 rk) := BR'.cell (i := 1) rfl
    have q2 : _ = some (Value.slice oa on oc) := BR'.cell (i := 2) rfl
    have hn : Nx w (((wr.setCell ⟨w.heap.size + 1, 0, none⟩ (.int .i64 rc)).setCell ⟨w.heap.size + 1, 1, none⟩ (.int .i64 rk)).setCell ⟨w.heap.size + 1, 2, none⟩ (.slice oa on oc)) := Below.setCell (Below.setCell (Below.setCell HB.out.nx (Nat.le_succ _) _) (Nat.le_succ _) _) (Nat.le_succ _) _
    clear k0 k1 k2 BR'
    refine bodyPost_ret (v := .agg #[.int .i64 rc, .int .i64 rk, .slice oa on oc]) (by simp [results, Try.results16, go_sem, q0, q1, q2]) rfl ?_
    refine ⟨⟨rc, rk, oa, on, oc, rfl, HF.out.1, HF.out.2.1, ?_⟩, hn⟩
    exact HF.out.2.2.next hn
  have HJ : Hid (j < ws.length) := by unfold Hid; rw [HZ.out]; exact hlt
  obtain ⟨g, ev, kv, rfl, _, _, c0, c1, c2, he, hk, _⟩ := H0.out.at HJ.out
  have HEV : Hid (OwnI C w ev (wkat ws j).E) := he
  have hel := HEL.out _ (wkat_mem HJ.out)
  obtain ⟨ea, ec, hev⟩ := he.slice
  obtain ⟨ka, kc, hkv⟩ := hk.slice
  obtain ⟨m, hm⟩ : ∃ m, (wkat ws j).E.length = m + 1 := ⟨(wkat ws j).E.length - 1, by omega⟩
  have HM : Hid ((wkat ws j).E.length = m + 1) := hm
  have hm2 : m + 1 ≤ 1000000 := by omega
  rw [hm] at hev
  generalize (wkat ws j).key.length = kn at hkv
  subst hev hkv
  have HUP : Hid (bestW t old (ws.take (j + 1)) = bestOne t (bestW t old (ws.take j)) (wkat ws j)) := best_up HJ.out
  have HONE : Hid (∀ r : Rt, bestOne t r (wkat ws j) = if (decide (iat (wkat ws j).E m = t) && (decide (r.code ≠ 0) || (decide ((wkat ws j).c < r.cost) || (decide ((wkat ws j).c = r.cost) && befB (wkat ws j).E r.edges)))) = true then ⟨0, (wkat ws j).c, (wkat ws j).E⟩ else r) := by
    intro r
    unfold bestOne endsB
    rw [last_iat HM.out t]
  obtain ⟨eg, hega, hel0⟩ := HEV.out.cell (i := m) (by rw [HM.out]; omega)
  subst hega
  have hlt' : (j : Int) < n := by omega
  have hm1 : (m : Int) < (m : Int) + 1 := by omega
  have wm1 : IntKind.i64.wrap ((m : Int) + 1 - 1) = (m : Int) := by rw [IntKind.wrap_i64]; omega
  have wm2 : ((m : Int) + 1 - 1) = (m : Int) := by omega
  have wm3 := wrapJ m (by omega)
  have c0 := cellq HB.out.nx c0
  have c1 := cellq HB.out.nx c1
  have c2 := cellq HB.out.nx c2
  have l0 := cellq (box1 wr (.cells #[.slice (some ⟨eg, 0, none⟩) (m + 1) ec, .int .i64 (wkat ws j).c, .slice ka kn kc] 39)) (cellq HB.out.nx hel0)
  have HB1 : Hid (BW C j t w (wr.alloc (.cells #[.slice (some ⟨eg, 0, none⟩) (m + 1) ec, .int .i64 (wkat ws j).c, .slice ka kn kc] 39)) old ws rc rk oa on oc) := HB.out.next (box1 _ _)
  have HX : Hid (Blk (wr.alloc (.cells #[.slice (some ⟨eg, 0, none⟩) (m + 1) ec, .int .i64 (wkat ws j).c, .slice ka kn kc] 39)) wr.heap.size #[.slice (some ⟨eg, 0, none⟩) (m + 1) ec, .int .i64 (wkat ws j).c, .slice ka kn kc]) := Blk.new _ _ _ _ rfl
  have hrc : rc = (bestW t old (ws.take j)).code := HB.out.rt.1
  have hrk : rk = (bestW t old (ws.take j)).cost := HB.out.rt.2.1
  have HR : Hid (bestW t old (ws.take (j + 1)) = if (decide (iat (wkat ws j).E m = t) && (decide (rc ≠ 0) || (decide ((wkat ws j).c < rk) || (decide ((wkat ws j).c = rk) && befB (wkat ws j).E (bestW t old (ws.take j)).edges)))) = true then ⟨0, (wkat ws j).c, (wkat ws j).E⟩ else bestW t old (ws.take j)) := by
    unfold Hid
    rw [HUP.out, HONE.out, ← hrc, ← hrk]
  have HOE : Hid (OwnI C w (.slice oa on oc) (bestW t old (ws.take j)).edges) := HB.out.rt.2.2
  clear hrc hrk HUP HONE he hk hel hm HB hel0
  go_upto_region 5 with fail
  clear c0 c1 c2
  generalize hw1 : wr.alloc (.cells #[.slice (some ⟨eg, 0, none⟩) (m + 1) ec, .int .i64 (wkat ws j).c, .slice ka kn kc] 39) = w1 at *
  clear hw1
  have HKEEP : Hid ((decide (iat (wkat ws j).E m = t) && (decide (rc ≠ 0) || (decide ((wkat ws j).c < rk) || (decide ((wkat ws j).c = rk) && befB (wkat ws j).E (bestW t old (ws.take j)).edges)))) = false → ∀ wq, Nx w1 wq → BW C (j + 1) t w wq old ws rc rk oa on oc) := fun h wq hq => (HB1.out.next hq).keep (by rw [HR.out, if_neg (by rw [h]; simp)])
  have HPUT : Hid ((decide (iat (wkat ws j).E m = t) && (decide (rc ≠ 0) || (decide ((wkat ws j).c < rk) || (decide ((wkat ws j).c = rk) && befB (wkat ws j).E (bestW t old (ws.take j)).edges)))) = true → ∀ wq, Nx w1 wq → BW C (j + 1) t w (((wq.setCell ⟨w.heap.size, 0, none⟩ (.int .i64 0)).setCell ⟨w.heap.size, 1, none⟩ (.int .i64 (wkat ws j).c)).setCell ⟨w.heap.size, 2, none⟩ (.slice (some ⟨eg, 0, none⟩) (m + 1) ec)) old ws 0 (wkat ws j).c (some ⟨eg, 0, none⟩) (m + 1) ec) := fun h wq hq => (HB1.out.next hq).put HEV.out (by rw [HR.out, if_pos h])
  have b0 : w1.cell? ⟨wr.heap.size, 0, none⟩ = some (.slice (some ⟨eg, 0, none⟩) (m + 1) ec) := HX.out.cell (i := 0) rfl
  have b1 : w1.cell? ⟨wr.heap.size, 1, none⟩ = some (.int .i64 (wkat ws j).c) := HX.out.cell (i := 1) rfl
  have r0 : w1.cell? ⟨w.heap.size, 0, none⟩ = some (.int .i64 rc) := HB1.out.b0.cell (i := 0) rfl
  have r1 : w1.cell? ⟨w.heap.size, 1, none⟩ = some (.int .i64 rk) := HB1.out.b0.cell (i := 1) rfl
  have r2 : w1.cell? ⟨w.heap.size, 2, none⟩ = some (.slice oa on oc) := HB1.out.b0.cell (i := 2) rfl
  have z0 := HB1.out.b0.frozen 0
  have z1 := HB1.out.b0.frozen 1
  have z2 := HB1.out.b0.frozen 2
  have HNX1 : Hid (Nx w w1) := HB1.out.nx
  have HFZ : Hid (∀ wq, Nx w1 wq → ∀ o, wq.frozen? ⟨w.heap.size, o, none⟩ = false) := fun wq hq o => (HB1.out.b0.next hq).frozen o
  clear HR HB1 HX
  generalize hbb : befB (wkat ws j).E (bestW t old (ws.take j)).edges = bb at *
  have HBB : Hid (befB (wkat ws j).E (bestW t old (ws.take j)).edges = bb) := hbb
  clear hbb
  generalize iat (wkat ws j).E m = le at *
  generalize (wkat ws j).c = cj at *
  by_cases g0 : le = t
  case neg =>
    have f0 : (le != t) = true := by simpa using g0
    have HK1 : Hid (BW C (j + 1) t w w1 old ws rc rk oa on oc) := HKEEP.out (by simp [g0]) w1 (Nx.refl _)
    clear g0 HKEEP HPUT
    go_wp2
    go_roundw
    case rel => exact ⟨j + 1, _, _, _, _, _, by omega, by go_num, HK1⟩
    case measure => simp [intOf]; omega
  have f0 : (le != t) = false := by simpa using g0
  have e0 : decide (le = t) = true := by simpa using g0
  clear g0
  rw [e0, Bool.true_and] at HKEEP HPUT
  clear e0
  by_cases g1 : rc = 0
  case neg =>
    have f1 : (rc != 0) = true := by simpa using g1
    have f2 : (rc == 0) = false := by simpa using g1
    have HP1 : Hid _ := HPUT.out (by simp [g1]) w1 (Nx.refl _)
    clear g1 HKEEP HPUT
    go_wp2
    go_roundw
    case rel => exact ⟨j + 1, _, _, _, _, _, by omega, by go_num, HP1⟩
    case measure => simp [intOf]; omega
  have f1 : (rc != 0) = false := by simpa using g1
  have f2 : (rc == 0) = true := by simpa using g1
  have e1 : decide (rc ≠ 0) = false := by simpa using g1
  clear g1
  rw [e1, Bool.false_or] at HKEEP HPUT
  clear e1
  by_cases g2 : cj < rk
  · have f3 : decide (cj < rk) = true := by simpa using g2
    have f4 : (cj == rk) = false := by simp; omega
    have HP1 : Hid _ := HPUT.out (by rw [f3]; rfl) w1 (Nx.refl _)
    clear g2 HKEEP HPUT
    go_wp2
    go_roundw
    case rel => exact ⟨j + 1, _, _, _, _, _, by omega, by go_num, HP1⟩
    case measure => simp [intOf]; omega
  have f3 : decide (cj < rk) = false := by simpa using g2
  rw [f3, Bool.false_or] at HKEEP HPUT
  by_cases g3 : cj = rk
  case neg =>
    have f4 : (cj == rk) = false := by simpa using g3
    have HP1 : Hid _ := HKEEP.out (by simp [g3]) w1 (Nx.refl _)
    clear g2 g3 HKEEP HPUT
    go_wp2
    go_roundw
    case rel => exact ⟨j + 1, _, _, _, _, _, by omega, by go_num, HP1⟩
    case measure => simp [intOf]; omega
  have f4 : (cj == rk) = true := by simpa using g3
  have e3 : decide (cj = rk) = true := by simpa using g3
  rw [e3, Bool.true_and] at HKEEP HPUT
  clear g2 g3 e3
  go_wp2_with fail
  refine (l3Before_any C C _ _ (wkat ws j).E (bestW t old (ws.take j)).edges _ (by exact (HEV.out.next HNX1.out).held) (by exact (HOE.out.next HNX1.out).held)).mono ?_
  rintro e w2 ⟨rfl, hx⟩
  rw [HBB.out]
  have HX2 : Hid (Nx w1 w2) := hx
  have b0 := cellq hx b0
  have b1 := cellq hx b1
  have r0 := cellq hx r0
  have r1 := cellq hx r1
  have r2 := cellq hx r2
  clear hx
  have HZF : Hid (∀ o, w2.frozen? ⟨w.heap.size, o, none⟩ = false) := HFZ.out w2 HX2.out
  have z0 := HZF.out 0
  have z1 := HZF.out 1
  have z2 := HZF.out 2
  clear HZF
  cases bb
  · have HP1 : Hid _ := HKEEP.out rfl w2 HX2.out
    clear HKEEP HPUT
    go_wp2
    go_roundw
    case rel => exact ⟨j + 1, _, _, _, _, _, by omega, by go_num, HP1⟩
    case measure => simp [intOf]; omega
  · have HP1 : Hid _ := HPUT.out rfl w2 HX2.out
    clear HKEEP HPUT
    go_wp2
    go_roundw
    case rel => exact ⟨j + 1, _, _, _, _, _, by omega, by go_num, HP1⟩
    case measure => simp [intOf]; omega
end Go.Proofs.Yticooljejlkbfaa
