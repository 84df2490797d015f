import Derived.Test.YtcdjmpbdaiafgaaGreatDoorKB
namespace Go.Proofs.YtcdjmpbdaiafgaaGreatDoor
open Go.RowKit
set_option linter.unusedVariables false
set_option maxRecDepth 100000

theorem nx_drewN (w : World) (n : Nat) : Nx w (w.drewN n) := below_drewN (Below.refl _ w) n
theorem HEdges.at' {B : Nat} {w : World} {a : Option Addr} {n c : Nat} {es : List Eg} (h : HEdges B w (.slice a n c) es) (hp : 0 < es.length) : n = es.length ∧ ∃ b off, a = some ⟨b, off, none⟩ ∧ b < w.heap.size ∧ ∀ i, i < es.length → HEdge w b (off + i * 7) (eat es i) := by
  obtain ⟨a', cap, e, _, hk⟩ := h
  simp only [Value.slice.injEq] at e
  obtain ⟨rfl, rfl, rfl⟩ := e
  obtain ⟨b, off, e, _, hb, hc⟩ := hk hp
  exact ⟨rfl, b, off, e, hb, hc⟩

set_option maxHeartbeats 16000000 in
theorem l2Grow_any (B B1 B2 : Nat) (v0 v1 v2 v3 vl vp : Value) (R : Rd) (ls ps : List (List Nat)) (w : World) (h0 : HRoad B w v0 v1 v2 v3 R) (hm : R.edges.length ≤ 4000) (hl : HWords B1 w vl (ls.map nums)) (hp : HWords B2 w vp (ps.map nums)) (hgl : ∀ l ∈ ls, goodL R.edges.length l) (hgp : ∀ l ∈ ps, goodL R.edges.length l) (hL : ls.length ≤ 1000000) (hP : ps.length ≤ 10000) :
    Calls Tryz.prog 85 #[.agg #[v0, v1, v2, v3], vl, vp] w fun e w' => (∃ u, e = .returned u ∧ OwnW w.heap.size w' u ((growL R.edges ls ps).map nums)) ∧ Nx w w' := by
  obtain ⟨ii, hi, hz0, hz1, hz2⟩ := info_parts infoWord
  obtain ⟨a, cap, rfl, hml, hk⟩ := h0.2.1
  have HE : Hid (HEdges B w (.slice a R.edges.length cap) R.edges) := h0.2.1
  clear h0 hk hml
  have HLW : Hid (HWords B1 w vl (ls.map nums)) := hl
  have HPW : Hid (HWords B2 w vp (ps.map nums)) := hp
  obtain ⟨la, lc, rfl, _, _⟩ := hl
  obtain ⟨pa, pc, rfl, _, _⟩ := hp
  have HGL : Hid (∀ l ∈ ls, goodL R.edges.length l) := hgl
  have HGP : Hid (∀ l ∈ ps, goodL R.edges.length l) := hgp
  clear hgl hgp
  generalize hes : R.edges = es at *
  clear hes
  simp only [List.length_map] at *
  generalize hz : es.length = m at *
  have HZ : Hid (es.length = m) := hz
  generalize hnl : ls.length = nl at *
  have HNL : Hid (ls.length = nl) := hnl
  generalize hnp : ps.length = np at *
  have HNP : Hid (ps.length = np) := hnp
  have HPROD : Hid (nl * np ≤ 10000000000) := Nat.le_trans (Nat.mul_le_mul hL hP) (by decide)
  clear hz hnl hnp
  have HB0 : Hid (Blk (w.alloc (.cells #[v0, .slice a m cap, v2, v3] 60)) w.heap.size #[v0, .slice a m cap, v2, v3]) := Blk.new w _ _ _ rfl
  have HX0 : Hid (Nx w (w.alloc (.cells #[v0, .slice a m cap, v2, v3] 60))) := box1 _ _
  go_enter Tryz.func85, Tryz.ntmps85
  go_upto_region 1 with fail
  generalize w.alloc (.cells #[v0, .slice a m cap, v2, v3] 60) = w1 at *
  go_wp2
  go_loopw [7, 8] (fun u i wr => ∃ k : Nat, k ≤ nl ∧ i = .int .i64 k ∧ Hid (OwnW w1.heap.size wr u ((growTo es ls ps k 0).map nums)) ∧ Hid (Nx w1 wr)) (fun _ i _ => nl - (intOf i).toNat)
  case atStart => exact ⟨0, Nat.zero_le _, rfl, ownW_none w1.heap.size w1 (Nat.le_refl _), box1 _ _⟩
  obtain ⟨k, hkm, rfl, HO, HN⟩ := hrel
  by_cases hlt : k < nl
  case neg =>
    have ek : nl = k := by omega
    subst ek
    have HF : Hid (OwnW w1.heap.size wr u7 ((growL es ls ps).map nums)) := by
      have := HO.out
      rw [growTo_zero, ← HNL.out, List.take_length] at this
      exact this
    clear HO hlt hkm
    go_wp2
    go_ret
    exact ⟨⟨_, rfl, HF.out.base HX0.out.size⟩, HX0.out.trans HN.out⟩
  have hlt' : (k : Int) < nl := by omega
  have HKL : Hid (k < ls.length) := by unfold Hid; rw [HNL.out]; exact hlt
  go_wp2
  go_loopw [7, 9] (fun u j wr => ∃ q : Nat, q ≤ np ∧ j = .int .i64 q ∧ Hid (OwnW w1.heap.size wr u ((growTo es ls ps k q).map nums)) ∧ Hid (Nx w1 wr)) (fun _ j _ => np - (intOf j).toNat)
  case atStart => exact ⟨0, Nat.zero_le _, rfl, HO, HN⟩
  clear HO HN
  obtain ⟨q, hqm, rfl, HO, HN⟩ := hrel
  by_cases hq : q < np
  case neg =>
    have eq : np = q := by omega
    subst eq
    have HF : Hid (OwnW w1.heap.size wr u7 ((growTo es ls ps (k + 1) 0).map nums)) := by
      have := HO.out
      rw [← HNP.out, growTo_end HKL.out] at this
      exact this
    clear HO hq hqm
    go_wp2
    go_roundw
    case rel => exact ⟨k + 1, by omega, by go_num, HF, HN⟩
    case measure => simp [intOf]; omega
  have hq' : (q : Int) < np := by omega
  have HQP : Hid (q < ps.length) := by unfold Hid; rw [HNP.out]; exact hq
  have HGk := HGL.out _ (lsat_mem HKL.out)
  have HGq := HGP.out _ (lsat_mem HQP.out)
  have HLEN : Hid (((growTo es ls ps k q).map nums).length ≤ 10000000000) := by
    unfold Hid
    rw [List.length_map]
    have h1 := growTo_len es (ls := ls) (ps := ps) (i := k) (j := q) HKL.out (by rw [HNP.out]; omega)
    rw [HNL.out, HNP.out] at h1
    exact Nat.le_trans h1 HPROD.out
  have HYES : Hid (hdL es (lsat ls k) = tlL es (lsat ps q) → (growTo es ls ps k (q + 1)).map nums = (growTo es ls ps k q).map nums ++ [nums (lsat ls k) ++ nums (lsat ps q)]) := fun h => by rw [growTo_yes HQP.out h, List.map_append, ← nums_app]; rfl
  have HNO : Hid (hdL es (lsat ls k) ≠ tlL es (lsat ps q) → growTo es ls ps k (q + 1) = growTo es ls ps k q) := fun h => growTo_no HQP.out h
  have HHD : Hid (hdL es (lsat ls k) = (eat es ((lsat ls k).getLastD 0)).head) := rfl
  have HTL : Hid (tlL es (lsat ps q) = (eat es ((lsat ps q).headD 0)).tail) := rfl
  generalize hll : lsat ls k = l at *
  generalize hpp : lsat ps q = p at *
  obtain ⟨bl, ol, cl, el, hbl, vi, hvi, hvI, hcI⟩ := HLW.out.at' (i := k) (by rw [List.length_map, HNL.out]; exact hlt)
  obtain ⟨bp, op, cp, ep, hbp, vj, hvj, hvJ, hcJ⟩ := HPW.out.at' (i := q) (by rw [List.length_map, HNP.out]; exact hq)
  rw [wd_nums HKL.out, hll] at hvI
  rw [wd_nums HQP.out, hpp] at hvJ
  simp only [Value.slice.injEq] at el ep
  obtain ⟨rfl, el2, rfl⟩ := el
  obtain ⟨rfl, ep2, rfl⟩ := ep
  clear el2 ep2
  have HVI : Hid (HInts B1 w vi (nums l)) := hvI
  have HVJ : Hid (HInts B2 w vj (nums p)) := hvJ
  obtain ⟨lm, hlm⟩ : ∃ lm, l.length = lm + 1 := ⟨l.length - 1, by have := List.length_pos_iff.2 HGk.1; omega⟩
  obtain ⟨pm, hpm⟩ : ∃ pm, p.length = pm + 1 := ⟨p.length - 1, by have := List.length_pos_iff.2 HGq.1; omega⟩
  have hlm5 : lm ≤ 100000 := by have := HGk.2.1; omega
  obtain ⟨ai, ci, rfl, hmi, hki⟩ := hvI
  obtain ⟨aj, cj, rfl, hmj, hkj⟩ := hvJ
  rw [nums_len] at hki hkj hvi hvj
  obtain ⟨bi, oi, rfl, _, hbi, hci⟩ := hki (by omega)
  obtain ⟨bj, oj, rfl, _, hbj, hcj⟩ := hkj (by omega)
  have HLI := last_lt HGk
  have HHJ := head_lt HGq
  have y1 : w.cell? ⟨bi, oi + lm, none⟩ = some (.int .i64 ((l.getLastD 0 : Nat) : Int)) := by
    have := hci lm (by omega)
    rw [show lm = l.length - 1 by omega, iat_last HGk.1] at this
    rw [show lm = l.length - 1 by omega]
    exact this
  have y2 : w.cell? ⟨bj, oj, none⟩ = some (.int .i64 ((p.headD 0 : Nat) : Int)) := by
    have := hcj 0 (by omega)
    dsimp only at this
    rw [iat_first HGq.1] at this
    exact this
  obtain ⟨ez2, be, oe, rfl, hbe, hce⟩ := HE.out.at' (by rw [HZ.out]; omega)
  clear ez2
  have z1 := (hce _ (by rw [HZ.out]; exact HLI)).2.1
  have z2 := (hce _ (by rw [HZ.out]; exact HHJ)).1
  generalize l.getLastD 0 = x at *
  generalize p.headD 0 = y at *
  rw [hlm] at hvi
  rw [hpm] at hvj
  have HVI2 : Hid (HInts B1 w (.slice (some ⟨bi, oi, none⟩) (lm + 1) ci) (nums l)) := by have := HVI.out; rw [nums_len, hlm] at this; exact this
  have HVJ2 : Hid (HInts B2 w (.slice (some ⟨bj, oj, none⟩) (pm + 1) cj) (nums p)) := by have := HVJ.out; rw [nums_len, hpm] at this; exact this
  have HLL : Hid ((nums l).length ≤ 100000 ∧ (nums p).length ≤ 100000) := ⟨by rw [nums_len]; exact HGk.2.1, by rw [nums_len]; exact HGq.2.1⟩
  clear hci hcj hki hkj hce hmi hmj HVI HVJ hcI hcJ hlm hpm hll hpp HGk HGq hbl hbp hbi hbj hbe
  have HXw : Hid (Nx w wr) := HX0.out.trans HN.out
  have r0 := (HB0.out.next HN.out).cell (i := 1) rfl
  have a1 := cellq HXw.out hvi
  have a2 := cellq HXw.out hvj
  have a3 := cellq HXw.out y1
  have a4 := cellq HXw.out y2
  have a5 := cellq HXw.out z1
  have a6 := cellq HXw.out z2
  have hx' : (x : Int) < m := by omega
  have hy' : (y : Int) < m := by omega
  have hlm' : (lm : Int) < (lm : Int) + 1 := by omega
  have hpm' : (0 : Int) < (pm : Int) + 1 := by omega
  have HC1 : Hid (w.cell? ⟨bl, ol + k, none⟩ = some (.slice (some ⟨bi, oi, none⟩) (lm + 1) ci)) := hvi
  have HC2 : Hid (w.cell? ⟨bp, op + q, none⟩ = some (.slice (some ⟨bj, oj, none⟩) (pm + 1) cj)) := hvj
  clear hvi hvj y1 y2 z1 z2
  go_upto_region 8 with fail
  go_quiet (fail)
  have HDQ : Hid (Nx wr (wr.drewN nq)) := nx_drewN _ _
  generalize wr.drewN nq = wq at *
  have b0 := cellq HDQ.out r0
  have b1 := cellq HDQ.out a1
  have b2 := cellq HDQ.out a2
  have b4 := cellq HDQ.out a4
  have b5 := cellq HDQ.out a5
  have b6 := cellq HDQ.out a6
  have HOQ : Hid (OwnW w1.heap.size wq u7 ((growTo es ls ps k q).map nums)) := HO.out.next HDQ.out
  have HNQ : Hid (Nx w1 wq) := HN.out.trans HDQ.out
  have HXQ : Hid (Nx w wq) := HXw.out.trans HDQ.out
  clear r0 a1 a2 a3 a4 a5 a6 HO HN
  generalize (eat es x).head = hd at *
  generalize (eat es y).tail = td at *
  by_cases hj : hd = td
  case neg =>
    have g1 : (hd == td) = false := by simpa using hj
    have HE2 : Hid (growTo es ls ps k (q + 1) = growTo es ls ps k q) := HNO.out (by rw [HHD.out, HTL.out]; exact hj)
    clear hj
    go_upto_region 10 with fail
    go_quiet (fail)
    have HDQ2 : Hid (Nx wq (wq.drewN nq)) := nx_drewN _ _
    generalize wq.drewN nq = wz at *
    clear b0 b1 b2 b4 b5 b6
    go_wp2
    go_roundw
    case rel => exact ⟨q + 1, by omega, by go_num, by unfold Hid; rw [HE2.out]; exact HOQ.out.next HDQ2.out, HNQ.out.trans HDQ2.out⟩
    case measure => simp [intOf]; omega
  have g1 : (hd == td) = true := by simpa using hj
  have HES : Hid ((growTo es ls ps k (q + 1)).map nums = (growTo es ls ps k q).map nums ++ [nums l ++ nums p]) := HYES.out (by rw [HHD.out, HTL.out]; exact hj)
  clear hj
  go_upto_region 10 with fail
  go_quiet (fail)
  have HDQ2 : Hid (Nx wq (wq.drewN nq)) := nx_drewN _ _
  generalize wq.drewN nq = wz at *
  have c1 := cellq HDQ2.out b1
  have c2 := cellq HDQ2.out b2
  have HOZ : Hid (OwnW w1.heap.size wz u7 ((growTo es ls ps k q).map nums)) := HOQ.out.next HDQ2.out
  have HNZ : Hid (Nx w1 wz) := HNQ.out.trans HDQ2.out
  have HXZ : Hid (Nx w wz) := HXQ.out.trans HDQ2.out
  have HSZ : Hid (w1.heap.size ≤ wz.heap.size) := HNZ.out.size
  clear b0 b1 b2 b4 b5 b6 HOQ HNQ HXQ HDQ HDQ2
  generalize (growTo es ls ps k q).map nums = ws at *
  obtain ⟨ua, uc, hus⟩ := HOZ.out.slice
  subst hus
  generalize hwl : ws.length = wl at *
  have HWL : Hid (ws.length = wl) := hwl
  have hwl4 : wl ≤ 10000000000 := HLEN.out
  clear hwl
  have HVIZ : Hid (HInts B1 wz (.slice (some ⟨bi, oi, none⟩) (lm + 1) ci) (nums l)) := HVI2.out.next HXZ.out
  have HVJZ : Hid (HInts B2 wz (.slice (some ⟨bj, oj, none⟩) (pm + 1) cj) (nums p)) := HVJ2.out.next HXZ.out
  go_wp2
  go_region_held3 (fun w' => w'.cell? ⟨bl, ol + k, none⟩ = some (.slice (some ⟨bi, oi, none⟩) (lm + 1) ci) ∧ w'.cell? ⟨bp, op + q, none⟩ = some (.slice (some ⟨bj, oj, none⟩) (pm + 1) cj)) (first | exact ⟨t1, t2⟩ | exact ⟨cellq (box1 _ _) t1, cellq (box1 _ _) t2⟩ | (go_keep; done)) (first | (go_at_call 114; refine (l2Plus_any B1 B2 _ _ (nums l) (nums p) _ (by exact HVIZ.out.next (Below.refl _ _).drew) (by exact HVJZ.out.next (Below.refl _ _).drew) (by have := HLL.out; omega) (by have := HLL.out; omega)).mono ?_; rintro e w5 ⟨⟨u5, rfl, hO5⟩, hx5⟩; have HX5 : Hid (Nx wz w5) := (Below.refl _ _).drew.trans hx5; have HO5 : Hid (OwnI w1.heap.size w5 u5 (nums l ++ nums p)) := hO5.base HSZ.out; have HOZ5 : Hid (OwnW w1.heap.size w5 (.slice ua wl uc) ws) := HOZ.out.next HX5.out; have t1 := cellq HX5.out c1; have t2 := cellq HX5.out c2; obtain ⟨ub, ud, hub⟩ := HO5.out.slice; generalize (nums l ++ nums p).length = un at hub; subst hub; obtain ⟨cs5, hrow5, hwd5⟩ := HOZ5.out; have HROW5 : Hid (w5.ownsRow w1.heap.size 102 1 (.slice ua wl uc) ws.length cs5) := hrow5; have HWD5 : Hid (∀ i, i < ws.length → OwnI w1.heap.size w5 (vat cs5 i) (wd ws i)) := hwd5; have HS5 : Hid (w1.heap.size ≤ w5.heap.size) := Nat.le_trans HSZ.out HX5.out.size; have HN5 : Hid (Nx w1 w5) := HNZ.out.trans HX5.out; clear hO5 hx5 hrow5 hwd5) | (refine step_append_at rfl (.tmp 59) (.tmp 72) 97 rfl 102 ii (.agg #[.slice none 0 0]) 1 24 Tryz.underlying97 hi hz0 hz1 hz2 rfl (by decide) w1.heap.size (.slice ua wl uc) ws.length cs5 (by simp [Act.eval]) (World.ownsRow.alloc HROW5.out _) ⟨w5.heap.size, 0, none⟩ 1 1 [.slice ub un ud] (by simp [Act.eval]) rfl (fun j u hj => new_cells w5 _ _ _ rfl j u hj) (by intro u hu; simp at hu; subst hu; rfl) (by rw [HWL.out]; unfold maxLen; omega) (by rw [HWL.out]; omega) (by rw [size_alloc']; have := HS5.out; omega) ?_; intro v7 w7 hown hgrow hat; have HO7 : Hid (OwnW w1.heap.size w7 v7 (ws ++ [nums l ++ nums p])) := OwnW.snoc HROW5.out HWD5.out HO5.out _ hgrow hown; have HN7 : Hid (Nx w1 w7) := Below.grown (HN5.out.alloc _) hgrow (by rw [size_alloc']; have := HS5.out; omega) (fun g hg => (own_lt HROW5.out g hg).1); have t1 := cellq (HX0.out.trans HN7.out) HC1.out; have t2 := cellq (HX0.out.trans HN7.out) HC2.out; clear hown hgrow hat))
  all_goals
    go_wp2
    go_roundw
    case rel => exact ⟨q + 1, by omega, by go_num, by unfold Hid; rw [HES.out]; exact HO7.out, HN7⟩
    case measure => simp [intOf]; omega
end Go.Proofs.YtcdjmpbdaiafgaaGreatDoor

namespace Go.Proofs.YtcdjmpbdaiafgaaGreatDoor
open Go.RowKit
set_option linter.unusedVariables false
set_option maxRecDepth 100000

/-- the place of a way -/
def wpos (xs : List Wy) (id : Int) : Nat := xs.findIdx fun x => x.id == id
theorem wpos_at {xs : List Wy} {id : Int} {k : Nat} (hk : k < xs.length) (h : (wat xs k).id = id) (hn : notW xs id k) : wpos xs id = k := by
  unfold wpos
  rw [List.findIdx_eq hk]
  refine ⟨by rw [← wat_eq hk]; simpa using h, fun j hj => ?_⟩
  have := hn j hj
  rw [wat_eq (by omega)] at this
  simpa using this
theorem wpos_lt {xs : List Wy} {id : Int} (h : hasW xs id = true) : wpos xs id < xs.length := by
  unfold wpos hasW at *
  exact List.findIdx_lt_length.2 (by simpa using List.any_eq_true.1 h)
theorem wpos_id {xs : List Wy} {id : Int} (h : hasW xs id = true) : (wat xs (wpos xs id)).id = id := by
  have hl := wpos_lt h
  have h2 : (xs[wpos xs id].id == id) = true := List.findIdx_getElem (p := fun x : Wy => x.id == id) (xs := xs) (w := hl)
  rw [wat_eq hl]
  simpa using h2
theorem ret_natI {a b : Nat} (h : b = a) : Ending.returned (.int .i64 (a : Int)) = .returned (.int .i64 (b : Int)) := by rw [h]
set_option maxHeartbeats 1000000 in
theorem l1WayAt_pos (B : Nat) (v0 v1 v2 v3 : Value) (u id : Int) (xs : List Wy) (w : World) (h0 : HWays B w v1 xs) (hh : hasW xs id = true) :
    Calls Tryz.prog 55 #[.agg #[v0, v1, v2, v3, .int .i64 u], .int .i64 id] w fun e w' => e = .returned (.int .i64 (wpos xs id : Int)) ∧ Nx w w' := by
  obtain ⟨a, cap, rfl, hn, hk⟩ := h0
  unfold maxLen at hn
  have HH : Hid (hasW xs id = true) := hh
  clear hh
  generalize hz : xs.length = n at *
  have HZ : Hid (xs.length = n) := hz
  clear hz
  go_enter Tryz.func55, Tryz.ntmps55
  go_wp2
  go_loop [5] (fun i => ∃ k : Nat, k ≤ n ∧ i = .int .i64 k ∧ Hid (notW xs id k)) (fun i => n - (intOf i).toNat)
  case atStart => exact ⟨0, Nat.zero_le _, rfl, notW_zero _ _⟩
  case round =>
    obtain ⟨k, hkn, rfl, hrel⟩ := hrel
    by_cases hlt : k < n
    · obtain ⟨b, off, rfl, hB, hb, hc⟩ := hk (by omega)
      obtain ⟨vn, vw, hcc, _⟩ := hc k hlt
      clear hc hk
      go_wp2
      · go_ret
        exact ⟨ret_natI (wpos_at (by rw [HZ.out]; exact hlt) (by simpa using (show ((wat xs k).id == id) = true by assumption)) hrel.out), (Below.refl _ _).alloc (Nat.le_refl _) _⟩
      · go_round
        case rel => exact ⟨k + 1, by omega, by go_num, notW_succ hrel (by assumption)⟩
        case measure => simp [intOf]; omega
    · exfalso
      have := hasW_no (xs := xs) (id := id) (k := k) (by rw [HZ.out]; omega) hrel.out
      rw [HH.out] at this
      cases this

/-- lists of one -/
def sing (l : List Nat) : List (List Nat) := l.map fun e => [e]
theorem ones_sing (l : List Nat) : ones l = (sing l).map nums := by simp [ones, sing, nums]
theorem sing_good {es : List Eg} {i : Int} : ∀ l ∈ sing (ofTo es i es.length), goodL es.length l := by
  intro l hl
  obtain ⟨e, he, rfl⟩ := List.mem_map.1 hl
  refine ⟨by simp, by simp, fun x hx => ?_⟩
  have : x = e := by simpa using hx
  subst this
  unfold ofTo at he
  exact List.mem_range.1 (List.mem_filter.1 he).1
theorem sing_len (l : List Nat) : (sing l).length = l.length := by simp [sing]
theorem travs_good {N : Nt} {es : List Eg} {i : Nat} (hm : es.length ≤ 4000) (h1 : thTo es i es.length ≠ []) (h2 : (wat N.ways i).both = true → bkTo es i es.length ≠ []) : ∀ l ∈ travs N es i, goodL es.length l ∧ l.length ≤ 4000 := by
  have a1 : goodL es.length (thTo es i es.length) ∧ (thTo es i es.length).length ≤ 4000 := by
    have := thTo_len es i es.length
    rw [nums_len] at this
    exact ⟨⟨h1, by omega, fun e he => by unfold thTo at he; exact List.mem_range.1 (List.mem_filter.1 he).1⟩, by omega⟩
  intro l hl
  unfold travs at hl
  rcases List.mem_append.1 hl with g | g
  · have : l = thTo es i es.length := by simpa using g
    rw [this]; exact a1
  · by_cases hb : (wat N.ways i).both = true
    · rw [if_pos hb] at g
      have : l = bkTo es i es.length := by simpa using g
      have hl := bkTo_len es i es.length
      rw [nums_len] at hl
      rw [this]
      exact ⟨⟨h2 hb, by omega, fun e he => by unfold bkTo at he; exact List.mem_range.1 (List.mem_filter.1 (List.mem_reverse.1 he)).1⟩, by omega⟩
    · rw [if_neg hb] at g
      simp at g
theorem travs_len (N : Nt) (es : List Eg) (i : Nat) : (travs N es i).length ≤ 2 := by
  unfold travs
  split <;> simp
/-- what growing keeps -/
theorem growL_good {es : List Eg} {m c d : Nat} {ls ps : List (List Nat)} (h1 : ∀ l ∈ ls, goodL m l ∧ l.length ≤ c) (h2 : ∀ l ∈ ps, goodL m l ∧ l.length ≤ d) (hc : c + d ≤ 100000) : ∀ l ∈ growL es ls ps, goodL m l ∧ l.length ≤ c + d := by
  intro q hq
  unfold growL at hq
  obtain ⟨l, hl, hq⟩ := List.mem_flatMap.1 hq
  obtain ⟨p, hp, rfl⟩ := List.mem_map.1 hq
  have hp' := (List.mem_filter.1 hp).1
  have e1 := h1 l hl
  have e2 := h2 p hp'
  refine ⟨⟨by simp [e1.1.1], by rw [List.length_append]; omega, fun e he => ?_⟩, by rw [List.length_append]; omega⟩
  rcases List.mem_append.1 he with g | g
  · exact e1.1.2.2 e g
  · exact e2.1.2.2 e g
/-- the chains of a relation, as the model lists them -/
def firstsR (N : Nt) (es : List Eg) (r : Rl) : List Nat := ofTo es (wpos N.ways r.frm) es.length
def lastsR (N : Nt) (es : List Eg) (r : Rl) : List Nat := ofTo es (wpos N.ways r.to) es.length
def atNode (nodes : List Int) (es : List Eg) (node : Int) (e : Nat) : Bool := decide (iat nodes (eat es e).head.toNat = node)
def growW (N : Nt) (es : List Eg) (r : Rl) (k : Nat) : List (List Nat) := growAll es (sing (firstsR N es r)) ((r.ways.take k).map fun id => travs N es (wpos N.ways id))
def chainsR (N : Nt) (nodes : List Int) (es : List Eg) (r : Rl) : List (List Nat) :=
  if r.via then growL es (sing ((firstsR N es r).filter (atNode nodes es r.node))) (sing (lastsR N es r)) else growL es (growW N es r r.ways.length) (sing (lastsR N es r))
theorem growW_succ {N : Nt} {es : List Eg} {r : Rl} {k : Nat} (hk : k < r.ways.length) : growW N es r (k + 1) = growL es (growW N es r k) (travs N es (wpos N.ways (iat r.ways k))) := by
  unfold growW growAll
  rw [List.take_succ_eq_append_getElem hk, List.map_append, List.foldl_append, iat_eq hk]
  rfl
end Go.Proofs.YtcdjmpbdaiafgaaGreatDoor

namespace Go.Proofs.YtcdjmpbdaiafgaaGreatDoor
open Go.RowKit
set_option linter.unusedVariables false
set_option maxRecDepth 100000

theorem OwnW.at {C : Nat} {w : World} {a : Option Addr} {n c : Nat} {ws : List (List Int)} (h : OwnW C w (.slice a n c) ws) {i : Nat} (hi : i < ws.length) : ∃ g u, a = some ⟨g, 0, none⟩ ∧ w.cell? ⟨g, i, none⟩ = some u ∧ OwnI C w u (wd ws i) := by
  obtain ⟨cs, h1, h2⟩ := h
  obtain ⟨h3, h4⟩ := h1
  rw [Nat.mul_one] at h3
  rcases h4 with ⟨_, h4⟩ | ⟨g, cap, cur, e, hg, hh, hc, hm, hs, ht⟩
  · omega
  · simp only [Value.slice.injEq] at e
    refine ⟨g, vat cs i, e.1, ?_, h2 i hi⟩
    have e : (cur.toList.take (ws.length * 1))[i]? = cs[i]? := by rw [ht]
    rw [List.getElem?_take_of_lt (by omega), Array.getElem?_toList] at e
    simp [World.cell?, hh, e, vat, List.getD, show i < cs.length by omega]
theorem HWays.next {B : Nat} {w w' : World} {v : Value} {xs : List Wy} (h : HWays B w v xs) (k : Nx w w') : HWays B w' v xs := h.keep (k.keeps B)
/-- a row of words whose words may be elder than the row -/
def OwnV (C D : Nat) (w : World) (v : Value) (ws : List (List Int)) : Prop :=
  ∃ cs : List Value, w.ownsRow C 102 1 v ws.length cs ∧ ∀ i, i < ws.length → OwnI D w (vat cs i) (wd ws i)
theorem OwnV.next {C D : Nat} {w w' : World} {v : Value} {ws : List (List Int)} (h : OwnV C D w v ws) (k : Nx w w') : OwnV C D w' v ws := by
  obtain ⟨cs, h1, h2⟩ := h
  refine ⟨cs, ?_, fun i hi => (h2 i hi).next k⟩
  obtain ⟨h3, h4⟩ := h1
  refine ⟨h3, ?_⟩
  rcases h4 with h4 | ⟨g, cap, cur, hv, hg, hh, r⟩
  · exact Or.inl h4
  · exact Or.inr ⟨g, cap, cur, hv, hg, (k.block g (Array.getElem?_eq_some_iff.1 hh).1).trans hh, r⟩
theorem OwnV.own {C D : Nat} {w : World} {v : Value} {ws : List (List Int)} (h : OwnV C D w v ws) (hD : D ≤ C) : OwnW D w v ws := by
  obtain ⟨cs, h1, h2⟩ := h
  refine ⟨cs, ?_, h2⟩
  obtain ⟨h3, h4⟩ := h1
  refine ⟨h3, ?_⟩
  rcases h4 with h4 | ⟨g, cap, cur, hv, hg, r⟩
  · exact Or.inl h4
  · exact Or.inr ⟨g, cap, cur, hv, by omega, r⟩
theorem ownV_none (D : Nat) (w : World) : OwnV w.heap.size D (w.alloc (.cells #[] 102)) (.slice (some ⟨w.heap.size, 0, none⟩) 0 0) [] :=
  ⟨[], ⟨rfl, .inr ⟨w.heap.size, 0, #[], rfl, Nat.le_refl _, by show (w.heap.push _)[w.heap.size]? = _; simp, Nat.le_refl _, by simp [maxLen], by simp, by simp⟩⟩, fun i hi => absurd hi (Nat.not_lt_zero _)⟩
theorem OwnV.snoc {C D : Nat} {w w' : World} {v v' u : Value} {ws : List (List Int)} {x : List Int} {cs : List Value} (h1 : w.ownsRow C 102 1 v ws.length cs) (h2 : ∀ i, i < ws.length → OwnI D w (vat cs i) (wd ws i))
    (hu : OwnI D w u x) (ho : Obj) (hg : (w.alloc ho).grownBy w' v.ownBlock) (hn : w'.ownsRow C 102 1 v' (ws.length + 1) (cs ++ [u])) : OwnV C D w' v' (ws ++ [x]) := by
  have hl : cs.length = ws.length := by have := h1.1; omega
  have kept : ∀ {z : Value} {zs : List Int}, OwnI D w z zs → OwnI D w' z zs := fun {z zs} hz => World.ownsRow.kept (World.ownsRow.alloc hz ho) hg (own_ne hz h1 (by decide))
  refine ⟨cs ++ [u], by rw [List.length_append]; exact hn, fun i hi => ?_⟩
  rw [List.length_append, List.length_singleton] at hi
  by_cases e : i < ws.length
  · rw [wd_snoc e]
    have : vat (cs ++ [u]) i = vat cs i := by simp [vat, List.getD, List.getElem?_append_left (show i < cs.length by omega)]
    rw [this]
    exact kept (h2 i e)
  · have e' : i = ws.length := by omega
    rw [wd_end e']
    have : vat (cs ++ [u]) i = u := by rw [e', ← hl]; simp [vat, List.getD]
    rw [this]
    exact kept hu
theorem sing_wd {F : List Nat} {k : Nat} (hk : k < F.length) : wd ((sing F).map nums) k = [((F.getD k 0 : Nat) : Int)] := by
  simp [wd, sing, nums, List.getD_eq_getElem?_getD, hk]
theorem filt_yes {F : List Nat} {p : Nat → Bool} {k : Nat} (hk : k < F.length) (h : p (F.getD k 0) = true) : (sing ((F.take (k + 1)).filter p)).map nums = (sing ((F.take k).filter p)).map nums ++ [[((F.getD k 0 : Nat) : Int)]] := by
  have e : F.getD k 0 = F[k] := by simp [List.getD_eq_getElem?_getD, hk]
  rw [e] at h ⊢
  rw [List.take_succ_eq_append_getElem hk, List.filter_append]
  simp [sing, nums, h]
theorem filt_no {F : List Nat} {p : Nat → Bool} {k : Nat} (hk : k < F.length) (h : p (F.getD k 0) = false) : (F.take (k + 1)).filter p = (F.take k).filter p := by
  have e : F.getD k 0 = F[k] := by simp [List.getD_eq_getElem?_getD, hk]
  rw [e] at h
  rw [List.take_succ_eq_append_getElem hk, List.filter_append]
  simp [h]
/-- a relation that is as it should be -/
structure RelIn (N : Nt) (R : Rd) (r : Rl) : Prop where
  frm : hasW N.ways r.frm = true
  dst : hasW N.ways r.to = true
  len : r.ways.length ≤ 4
  ways : ∀ k, k < r.ways.length → hasW N.ways (iat r.ways k) = true
  th : ∀ i, i < N.ways.length → thTo R.edges i R.edges.length ≠ [] ∧ ((wat N.ways i).both = true → bkTo R.edges i R.edges.length ≠ [])
  hd : ∀ e, e < R.edges.length → 0 ≤ (eat R.edges e).head ∧ (eat R.edges e).head < R.nodes.length
theorem growW_good {N : Nt} {R : Rd} {r : Rl} (h : RelIn N R r) (hm : R.edges.length ≤ 4000) : ∀ k, k ≤ r.ways.length → (∀ l ∈ growW N R.edges r k, goodL R.edges.length l ∧ l.length ≤ 1 + 4000 * k) ∧ (growW N R.edges r k).length ≤ 4000 * 2 ^ k
  | 0, _ => by
    refine ⟨fun l hl => ?_, ?_⟩
    · have hl' : l ∈ sing (firstsR N R.edges r) := hl
      refine ⟨sing_good l hl', ?_⟩
      obtain ⟨e, _, rfl⟩ := List.mem_map.1 hl'
      simp
    · show (sing (firstsR N R.edges r)).length ≤ _
      rw [sing_len]
      have := ofTo_len R.edges (wpos N.ways r.frm) R.edges.length
      unfold firstsR
      omega
  | k + 1, hk => by
    obtain ⟨h1, h2⟩ := growW_good h hm k (by omega)
    have hw := wpos_lt (h.ways k (by omega))
    have ht := h.th _ hw
    have h3 := travs_good (N := N) hm ht.1 ht.2
    have hk4 := h.len
    rw [growW_succ (by omega)]
    refine ⟨fun l hl => ?_, ?_⟩
    · have := growL_good h1 h3 (by omega) l hl
      exact ⟨this.1, by omega⟩
    · have a1 := growL_len R.edges (growW N R.edges r k) (travs N R.edges (wpos N.ways (iat r.ways k)))
      have a2 := travs_len N R.edges (wpos N.ways (iat r.ways k))
      have a3 := Nat.mul_le_mul h2 a2
      rw [Nat.pow_succ]
      omega

set_option maxHeartbeats 16000000 in
theorem l2Chains_any (B0 B Bw : Nat) (n0 n1 n2 n3 : Value) (N : Nt) (v0 v1 v2 v3 : Value) (R : Rd) (r : Rl) (vw : Value) (w : World) (hN : HNet B0 w n0 n1 n2 n3 N) (h0 : HRoad B w v0 v1 v2 v3 R) (hw : HInts Bw w vw r.ways) (hm : R.edges.length ≤ 4000) (hR : RelIn N R r) :
    Calls Tryz.prog 56 #[.agg #[n0, n1, n2, n3, .int .i64 N.uturn], .agg #[v0, v1, v2, v3], .agg #[.int .i64 r.id, .bool r.only, .int .i64 r.frm, .int .i64 r.to, .bool r.via, .int .i64 r.node, vw]] w fun e w' => (∃ u, e = .returned u ∧ OwnW w.heap.size w' u ((chainsR N R.nodes R.edges r).map nums)) ∧ Nx w w' := by
  obtain ⟨ii, hi, hz0, hz1, hz2⟩ := info_parts infoWord
  have HNET : Hid (HNet B0 w n0 n1 n2 n3 N) := hN
  have HROAD : Hid (HRoad B w v0 v1 v2 v3 R) := h0
  have HW : Hid (HInts Bw w vw r.ways) := hw
  have HR : Hid (RelIn N R r) := hR
  clear hN h0 hR
  obtain ⟨a0, q0, e0, jm, jk⟩ := HNET.out.1
  clear jm jk
  obtain ⟨a1, q1, e1, jm, jk⟩ := HNET.out.2.1
  clear jm jk
  obtain ⟨a2, q2, e2, jm, jk⟩ := HNET.out.2.2.1
  clear jm jk
  obtain ⟨a3, q3, e3, jm, jk⟩ := HNET.out.2.2.2
  clear jm jk
  generalize N.nodes.length = l0 at e0
  generalize N.ways.length = l1 at e1
  generalize N.rels.length = l2 at e2
  generalize N.turns.length = l3 at e3
  obtain ⟨a4, q4, e4, jm, jk⟩ := HROAD.out.1
  clear jm jk
  obtain ⟨a5, q5, e5, jm, jk⟩ := HROAD.out.2.1
  clear jm jk
  obtain ⟨a6, q6, e6, jm, jk⟩ := HROAD.out.2.2.1
  clear jm jk
  obtain ⟨a7, q7, e7, jm, jk⟩ := HROAD.out.2.2.2
  clear jm jk
  generalize R.nodes.length = l4 at e4
  generalize R.edges.length = l5 at e5
  generalize R.first.length = l6 at e6
  generalize R.out.length = l7 at e7
  obtain ⟨aw, qw, ew, jm, jk⟩ := hw
  clear jm jk
  generalize r.ways.length = lw at ew
  subst e0 e1 e2 e3 e4 e5 e6 e7 ew
  generalize hW1 : ((w.alloc (.cells #[.slice a0 l0 q0, .slice a1 l1 q1, .slice a2 l2 q2, .slice a3 l3 q3, .int .i64 N.uturn] 38)).alloc (.cells #[.slice a4 l4 q4, .slice a5 l5 q5, .slice a6 l6 q6, .slice a7 l7 q7] 60)).alloc (.cells #[.int .i64 r.id, .bool r.only, .int .i64 r.frm, .int .i64 r.to, .bool r.via, .int .i64 r.node, .slice aw lw qw] 93) = w1
  have HX1 : Hid (Nx w w1) := by unfold Hid; rw [← hW1]; exact (box2 _ _ _).alloc _
  have BN : Hid (Blk w1 w.heap.size #[.slice a0 l0 q0, .slice a1 l1 q1, .slice a2 l2 q2, .slice a3 l3 q3, .int .i64 N.uturn]) := by unfold Hid; rw [← hW1]; exact ((Blk.new w _ _ _ rfl).alloc _).alloc _
  have BR : Hid (Blk w1 (w.heap.size + 1) #[.slice a4 l4 q4, .slice a5 l5 q5, .slice a6 l6 q6, .slice a7 l7 q7]) := by unfold Hid; rw [← hW1]; exact (Blk.new _ _ _ _ (by rw [size_alloc'])).alloc _
  have BL : Hid (Blk w1 (w.heap.size + 2) #[.int .i64 r.id, .bool r.only, .int .i64 r.frm, .int .i64 r.to, .bool r.via, .int .i64 r.node, .slice aw lw qw]) := by unfold Hid; rw [← hW1]; exact Blk.new _ _ _ _ (by rw [size_alloc', size_alloc'])
  go_enter Tryz.func56, Tryz.ntmps56
  go_upto_region 1 with fail
  clear hW1
  have HFR := HR.out.frm
  have HTO := HR.out.dst
  have HX11 : Hid (Nx w1 w1) := Below.refl _ _
  have k0 : w1.cell? ⟨w.heap.size, 0, none⟩ = some (.slice a0 l0 q0) := (BN.out.next (Below.refl _ _)).cell (i := 0) rfl
  have k1 : w1.cell? ⟨w.heap.size, 1, none⟩ = some (.slice a1 l1 q1) := (BN.out.next (Below.refl _ _)).cell (i := 1) rfl
  have k2 : w1.cell? ⟨w.heap.size, 2, none⟩ = some (.slice a2 l2 q2) := (BN.out.next (Below.refl _ _)).cell (i := 2) rfl
  have k3 : w1.cell? ⟨w.heap.size, 3, none⟩ = some (.slice a3 l3 q3) := (BN.out.next (Below.refl _ _)).cell (i := 3) rfl
  have k4 : w1.cell? ⟨w.heap.size, 4, none⟩ = some (.int .i64 N.uturn) := (BN.out.next (Below.refl _ _)).cell (i := 4) rfl
  have k5 : w1.cell? ⟨w.heap.size + 1, 0, none⟩ = some (.slice a4 l4 q4) := (BR.out.next (Below.refl _ _)).cell (i := 0) rfl
  have k6 : w1.cell? ⟨w.heap.size + 1, 1, none⟩ = some (.slice a5 l5 q5) := (BR.out.next (Below.refl _ _)).cell (i := 1) rfl
  have k7 : w1.cell? ⟨w.heap.size + 1, 2, none⟩ = some (.slice a6 l6 q6) := (BR.out.next (Below.refl _ _)).cell (i := 2) rfl
  have k8 : w1.cell? ⟨w.heap.size + 1, 3, none⟩ = some (.slice a7 l7 q7) := (BR.out.next (Below.refl _ _)).cell (i := 3) rfl
  have kf := BL.out.cell (i := 2) rfl
  go_region_held3 (fun w' => w'.cell? ⟨w.heap.size, 0, none⟩ = some (.slice a0 l0 q0) ∧ w'.cell? ⟨w.heap.size, 1, none⟩ = some (.slice a1 l1 q1) ∧ w'.cell? ⟨w.heap.size, 2, none⟩ = some (.slice a2 l2 q2) ∧ w'.cell? ⟨w.heap.size, 3, none⟩ = some (.slice a3 l3 q3) ∧ w'.cell? ⟨w.heap.size, 4, none⟩ = some (.int .i64 N.uturn) ∧ w'.cell? ⟨w.heap.size + 1, 0, none⟩ = some (.slice a4 l4 q4) ∧ w'.cell? ⟨w.heap.size + 1, 1, none⟩ = some (.slice a5 l5 q5) ∧ w'.cell? ⟨w.heap.size + 1, 2, none⟩ = some (.slice a6 l6 q6) ∧ w'.cell? ⟨w.heap.size + 1, 3, none⟩ = some (.slice a7 l7 q7) ∧ w'.cell? ⟨w.heap.size + 2, 2, none⟩ = some (.int .i64 r.frm)) (first | exact ⟨cellq HXbw2.out k0, cellq HXbw2.out k1, cellq HXbw2.out k2, cellq HXbw2.out k3, cellq HXbw2.out k4, cellq HXbw2.out k5, cellq HXbw2.out k6, cellq HXbw2.out k7, cellq HXbw2.out k8, cellq HXbw2.out kf⟩ | exact ⟨cellq HXaw2.out k0, cellq HXaw2.out k1, cellq HXaw2.out k2, cellq HXaw2.out k3, cellq HXaw2.out k4, cellq HXaw2.out k5, cellq HXaw2.out k6, cellq HXaw2.out k7, cellq HXaw2.out k8, cellq HXaw2.out kf⟩ | (go_keep; done)) (first | (go_at_call 55; refine (l1WayAt_pos B0 _ _ _ _ _ _ N.ways _ (by exact HNET.out.2.1.next (HX1.out.trans (Below.refl _ _).drew)) HFR).mono ?_; rintro e waw2 ⟨rfl, hxa⟩; have HXaw2 : Hid (Nx w1 waw2) := (Below.refl _ _).drew.trans hxa; clear hxa) | (go_at_call 84; refine (l2Of_any B _ _ _ _ R _ _ (by exact HROAD.out.next (HX1.out.trans HXaw2.out)) hm).mono ?_; rintro e w2 ⟨⟨uf, rfl, hOuf⟩, hxb⟩; have HXbw2 : Hid (Nx w1 w2) := HXaw2.out.trans hxb; have HOuf : Hid (OwnW w1.heap.size w2 uf (ones (ofTo R.edges (wpos N.ways r.frm) R.edges.length))) := hOuf.base (by have := HX11.out.size; have := HXaw2.out.size; omega); clear hOuf hxb))
  have HXw2 : Hid (Nx w w2) := HX1.out.trans HXbw2.out
  have HX1w2 : Hid (Nx w1 w2) := HXbw2.out
  have HLF : Hid (ones (ofTo R.edges (wpos N.ways r.frm) R.edges.length) = (sing (firstsR N R.edges r)).map nums) := ones_sing _
  have HLT : Hid (ones (ofTo R.edges (wpos N.ways r.to) R.edges.length) = (sing (lastsR N R.edges r)).map nums) := ones_sing _
  obtain ⟨fa, fc, hfe⟩ := HOuf.out.slice
  generalize hfl : (ones (ofTo R.edges (wpos N.ways r.frm) R.edges.length)).length = fl at hfe
  have HFL : Hid ((ones (ofTo R.edges (wpos N.ways r.frm) R.edges.length)).length = fl) := hfl
  subst hfe
  clear k0 k1 k2 k3 k4 k5 k6 k7 k8 kf hfl
  have k0 : w2.cell? ⟨w.heap.size, 0, none⟩ = some (.slice a0 l0 q0) := (BN.out.next HX1w2.out).cell (i := 0) rfl
  have k1 : w2.cell? ⟨w.heap.size, 1, none⟩ = some (.slice a1 l1 q1) := (BN.out.next HX1w2.out).cell (i := 1) rfl
  have k2 : w2.cell? ⟨w.heap.size, 2, none⟩ = some (.slice a2 l2 q2) := (BN.out.next HX1w2.out).cell (i := 2) rfl
  have k3 : w2.cell? ⟨w.heap.size, 3, none⟩ = some (.slice a3 l3 q3) := (BN.out.next HX1w2.out).cell (i := 3) rfl
  have k4 : w2.cell? ⟨w.heap.size, 4, none⟩ = some (.int .i64 N.uturn) := (BN.out.next HX1w2.out).cell (i := 4) rfl
  have k5 : w2.cell? ⟨w.heap.size + 1, 0, none⟩ = some (.slice a4 l4 q4) := (BR.out.next HX1w2.out).cell (i := 0) rfl
  have k6 : w2.cell? ⟨w.heap.size + 1, 1, none⟩ = some (.slice a5 l5 q5) := (BR.out.next HX1w2.out).cell (i := 1) rfl
  have k7 : w2.cell? ⟨w.heap.size + 1, 2, none⟩ = some (.slice a6 l6 q6) := (BR.out.next HX1w2.out).cell (i := 2) rfl
  have k8 : w2.cell? ⟨w.heap.size + 1, 3, none⟩ = some (.slice a7 l7 q7) := (BR.out.next HX1w2.out).cell (i := 3) rfl
  have kf := (BL.out.next HX1w2.out).cell (i := 3) rfl
  go_wp2
  go_region_held3 (fun w' => w'.cell? ⟨w.heap.size, 0, none⟩ = some (.slice a0 l0 q0) ∧ w'.cell? ⟨w.heap.size, 1, none⟩ = some (.slice a1 l1 q1) ∧ w'.cell? ⟨w.heap.size, 2, none⟩ = some (.slice a2 l2 q2) ∧ w'.cell? ⟨w.heap.size, 3, none⟩ = some (.slice a3 l3 q3) ∧ w'.cell? ⟨w.heap.size, 4, none⟩ = some (.int .i64 N.uturn) ∧ w'.cell? ⟨w.heap.size + 1, 0, none⟩ = some (.slice a4 l4 q4) ∧ w'.cell? ⟨w.heap.size + 1, 1, none⟩ = some (.slice a5 l5 q5) ∧ w'.cell? ⟨w.heap.size + 1, 2, none⟩ = some (.slice a6 l6 q6) ∧ w'.cell? ⟨w.heap.size + 1, 3, none⟩ = some (.slice a7 l7 q7) ∧ w'.cell? ⟨w.heap.size + 2, 3, none⟩ = some (.int .i64 r.to)) (first | exact ⟨cellq HXbw3.out k0, cellq HXbw3.out k1, cellq HXbw3.out k2, cellq HXbw3.out k3, cellq HXbw3.out k4, cellq HXbw3.out k5, cellq HXbw3.out k6, cellq HXbw3.out k7, cellq HXbw3.out k8, cellq HXbw3.out kf⟩ | exact ⟨cellq HXaw3.out k0, cellq HXaw3.out k1, cellq HXaw3.out k2, cellq HXaw3.out k3, cellq HXaw3.out k4, cellq HXaw3.out k5, cellq HXaw3.out k6, cellq HXaw3.out k7, cellq HXaw3.out k8, cellq HXaw3.out kf⟩ | (go_keep; done)) (first | (go_at_call 55; refine (l1WayAt_pos B0 _ _ _ _ _ _ N.ways _ (by exact HNET.out.2.1.next (HXw2.out.trans (Below.refl _ _).drew)) HTO).mono ?_; rintro e waw3 ⟨rfl, hxa⟩; have HXaw3 : Hid (Nx w2 waw3) := (Below.refl _ _).drew.trans hxa; clear hxa) | (go_at_call 84; refine (l2Of_any B _ _ _ _ R _ _ (by exact HROAD.out.next (HXw2.out.trans HXaw3.out)) hm).mono ?_; rintro e w3 ⟨⟨ut, rfl, hOut⟩, hxb⟩; have HXbw3 : Hid (Nx w2 w3) := HXaw3.out.trans hxb; have HOut : Hid (OwnW w1.heap.size w3 ut (ones (ofTo R.edges (wpos N.ways r.to) R.edges.length))) := hOut.base (by have := HX1w2.out.size; have := HXaw3.out.size; omega); clear hOut hxb))
  have HXw3 : Hid (Nx w w3) := HXw2.out.trans HXbw3.out
  have HX1w3 : Hid (Nx w1 w3) := HX1w2.out.trans HXbw3.out
  have HOF : Hid (OwnW w1.heap.size w3 (.slice fa fl fc) ((sing (firstsR N R.edges r)).map nums)) := by have := HOuf.out.next HXbw3.out; rw [HLF.out] at this; exact this
  have HOT : Hid (OwnW w1.heap.size w3 ut ((sing (lastsR N R.edges r)).map nums)) := by have := HOut.out; rw [HLT.out] at this; exact this
  have hfl4 : fl ≤ 4000 := by rw [← HFL.out, ones_len]; have := ofTo_len R.edges (wpos N.ways r.frm) R.edges.length; omega
  have HFLS : Hid ((sing (firstsR N R.edges r)).length = fl) := by have := HFL.out; rw [HLF.out, List.length_map] at this; exact this
  obtain ⟨ta, tc, hte⟩ := HOT.out.slice
  generalize htl : ((sing (lastsR N R.edges r)).map nums).length = tl at hte
  have HTL : Hid ((sing (lastsR N R.edges r)).length = tl) := by rw [List.length_map] at htl; exact htl
  have htl4 : tl ≤ 4000 := by rw [← HTL.out, sing_len]; have := ofTo_len R.edges (wpos N.ways r.to) R.edges.length; unfold lastsR; omega
  subst hte
  clear k0 k1 k2 k3 k4 k5 k6 k7 k8 kf htl HOuf HOut HLF HLT HFL
  have kv := (BL.out.next HX1w3.out).cell (i := 4) rfl
  have HCH : Hid (chainsR N R.nodes R.edges r = if r.via then growL R.edges (sing ((firstsR N R.edges r).filter (atNode R.nodes R.edges r.node))) (sing (lastsR N R.edges r)) else growL R.edges (growW N R.edges r r.ways.length) (sing (lastsR N R.edges r))) := rfl
  cases hvia : r.via
  · rw [hvia] at kv HCH
    have HCH2 : Hid (chainsR N R.nodes R.edges r = growL R.edges (growW N R.edges r r.ways.length) (sing (lastsR N R.edges r))) := by unfold Hid; rw [HCH.out]; rfl
    clear HCH hvia
    have HWL : Hid (r.ways.length = lw) := ints_len HW.out
    have hlw4 : lw ≤ 4 := by rw [← HWL.out]; exact HR.out.len
    go_wp2
    go_loopw [7, 11] (fun u i wr => ∃ k : Nat, k ≤ lw ∧ i = .int .i64 k ∧ Hid (OwnW w1.heap.size wr u ((growW N R.edges r k).map nums)) ∧ Hid (Nx w1 wr) ∧ Hid (OwnW w1.heap.size wr (.slice ta tl tc) ((sing (lastsR N R.edges r)).map nums))) (fun _ i _ => lw - (intOf i).toNat)
    case atStart => exact ⟨0, Nat.zero_le _, rfl, HOF, HX1w3, HOT⟩
    clear HOF HOT kv
    obtain ⟨k, hkm, rfl, HO, HN, HOT⟩ := hrel
    have HXr : Hid (Nx w wr) := HX1.out.trans HN.out
    obtain ⟨ga, gc, hge⟩ := HO.out.slice
    generalize hgl : ((growW N R.edges r k).map nums).length = gl at hge
    subst hge
    have HGG := growW_good HR.out hm k (by rw [HWL.out]; exact hkm)
    have HGL : Hid ((growW N R.edges r k).length ≤ 1000000 ∧ ∀ l ∈ growW N R.edges r k, goodL R.edges.length l) := by
      refine ⟨?_, fun l hl => (HGG.1 l hl).1⟩
      have h1 := HGG.2
      have h2 : 2 ^ k ≤ 2 ^ 4 := Nat.pow_le_pow_right (by decide) (by omega)
      omega
    clear hgl HGG
    have kl := (BL.out.next HN.out).cell (i := 6) rfl
    have k0 : wr.cell? ⟨w.heap.size, 0, none⟩ = some (.slice a0 l0 q0) := (BN.out.next HN.out).cell (i := 0) rfl
    have k1 : wr.cell? ⟨w.heap.size, 1, none⟩ = some (.slice a1 l1 q1) := (BN.out.next HN.out).cell (i := 1) rfl
    have k2 : wr.cell? ⟨w.heap.size, 2, none⟩ = some (.slice a2 l2 q2) := (BN.out.next HN.out).cell (i := 2) rfl
    have k3 : wr.cell? ⟨w.heap.size, 3, none⟩ = some (.slice a3 l3 q3) := (BN.out.next HN.out).cell (i := 3) rfl
    have k4 : wr.cell? ⟨w.heap.size, 4, none⟩ = some (.int .i64 N.uturn) := (BN.out.next HN.out).cell (i := 4) rfl
    have k5 : wr.cell? ⟨w.heap.size + 1, 0, none⟩ = some (.slice a4 l4 q4) := (BR.out.next HN.out).cell (i := 0) rfl
    have k6 : wr.cell? ⟨w.heap.size + 1, 1, none⟩ = some (.slice a5 l5 q5) := (BR.out.next HN.out).cell (i := 1) rfl
    have k7 : wr.cell? ⟨w.heap.size + 1, 2, none⟩ = some (.slice a6 l6 q6) := (BR.out.next HN.out).cell (i := 2) rfl
    have k8 : wr.cell? ⟨w.heap.size + 1, 3, none⟩ = some (.slice a7 l7 q7) := (BR.out.next HN.out).cell (i := 3) rfl
    by_cases hlt : k < lw
    · have hlt' : (k : Int) < lw := by omega
      have HKW : Hid (k < r.ways.length) := by unfold Hid; rw [HWL.out]; exact hlt
      have HES : Hid (growW N R.edges r (k + 1) = growL R.edges (growW N R.edges r k) (travs N R.edges (wpos N.ways (iat r.ways k)))) := growW_succ HKW.out
      have hway := HR.out.ways k HKW.out
      have HWP : Hid (wpos N.ways (iat r.ways k) < N.ways.length) := wpos_lt hway
      have HTG : Hid (∀ l ∈ travs N R.edges (wpos N.ways (iat r.ways k)), goodL R.edges.length l) := fun l hl => (travs_good hm (HR.out.th _ HWP.out).1 (HR.out.th _ HWP.out).2 l hl).1
      obtain ⟨bw, ow, haw, hbw, hcw⟩ := cell_of' HW.out HXr.out hlt
      subst haw
      have kw : wr.cell? ⟨bw, ow + k, none⟩ = some (.int .i64 (iat r.ways k)) := hcw
      have HWAY : Hid (hasW N.ways (iat r.ways k) = true) := hway
      clear hcw hway
      generalize iat r.ways k = wid at *
      go_wp2
      go_region_held3 (fun w' => w'.cell? ⟨w.heap.size, 0, none⟩ = some (.slice a0 l0 q0) ∧ w'.cell? ⟨w.heap.size, 1, none⟩ = some (.slice a1 l1 q1) ∧ w'.cell? ⟨w.heap.size, 2, none⟩ = some (.slice a2 l2 q2) ∧ w'.cell? ⟨w.heap.size, 3, none⟩ = some (.slice a3 l3 q3) ∧ w'.cell? ⟨w.heap.size, 4, none⟩ = some (.int .i64 N.uturn) ∧ w'.cell? ⟨w.heap.size + 1, 0, none⟩ = some (.slice a4 l4 q4) ∧ w'.cell? ⟨w.heap.size + 1, 1, none⟩ = some (.slice a5 l5 q5) ∧ w'.cell? ⟨w.heap.size + 1, 2, none⟩ = some (.slice a6 l6 q6) ∧ w'.cell? ⟨w.heap.size + 1, 3, none⟩ = some (.slice a7 l7 q7) ∧ w'.cell? ⟨w.heap.size + 2, 6, none⟩ = some (.slice (some ⟨bw, ow, none⟩) lw qw) ∧ w'.cell? ⟨bw, ow + k, none⟩ = some (.int .i64 wid)) (first | exact ⟨cellq HXc.out k0, cellq HXc.out k1, cellq HXc.out k2, cellq HXc.out k3, cellq HXc.out k4, cellq HXc.out k5, cellq HXc.out k6, cellq HXc.out k7, cellq HXc.out k8, cellq HXc.out kl, cellq HXc.out kw⟩ | exact ⟨cellq HXb.out k0, cellq HXb.out k1, cellq HXb.out k2, cellq HXb.out k3, cellq HXb.out k4, cellq HXb.out k5, cellq HXb.out k6, cellq HXb.out k7, cellq HXb.out k8, cellq HXb.out kl, cellq HXb.out kw⟩ | exact ⟨cellq HXa.out k0, cellq HXa.out k1, cellq HXa.out k2, cellq HXa.out k3, cellq HXa.out k4, cellq HXa.out k5, cellq HXa.out k6, cellq HXa.out k7, cellq HXa.out k8, cellq HXa.out kl, cellq HXa.out kw⟩ | (go_keep; done)) (first | (go_at_call 55; refine (l1WayAt_pos B0 _ _ _ _ _ _ N.ways _ (by exact HNET.out.2.1.next (HXr.out.trans (Below.refl _ _).drew)) HWAY.out).mono ?_; rintro e wa ⟨rfl, hxa⟩; have HXa : Hid (Nx wr wa) := (Below.refl _ _).drew.trans hxa; clear hxa) | (go_at_call 86; refine (l2Traversals_any B0 B _ _ _ _ N _ _ _ _ R _ _ (by exact HNET.out.next (HXr.out.trans HXa.out)) (by exact HROAD.out.next (HXr.out.trans HXa.out)) hm HWP.out).mono ?_; rintro e wb ⟨⟨ub, rfl, hOb⟩, hxb⟩; have HXb : Hid (Nx wr wb) := HXa.out.trans hxb; have HOb : Hid (OwnW wa.heap.size wb ub ((travs N R.edges (wpos N.ways wid)).map nums)) := hOb; clear hOb hxb) | (go_at_call 85; refine (l2Grow_any B w1.heap.size wa.heap.size _ _ _ _ _ _ R (growW N R.edges r k) (travs N R.edges (wpos N.ways wid)) _ (by exact HROAD.out.next (HXr.out.trans HXb.out)) hm (by exact (HO.out.next HXb.out).held) (by exact HOb.out.held) HGL.out.2 HTG.out HGL.out.1 (by have := travs_len N R.edges (wpos N.ways wid); omega)).mono ?_; rintro e wc ⟨⟨uc, rfl, hOc⟩, hxc⟩; have HXc : Hid (Nx wr wc) := HXb.out.trans hxc; have HOc : Hid (OwnW w1.heap.size wc uc ((growW N R.edges r (k + 1)).map nums)) := (by unfold Hid; rw [HES.out]; exact hOc.base (by have := HN.out.size; have := HXb.out.size; omega)); clear hOc hxc))
      all_goals
        clear k0 k1 k2 k3 k4 k5 k6 k7 k8 kl kw
        go_wp2
        go_roundw
        case rel => exact ⟨k + 1, by omega, by go_num, HOc, HN.out.trans HXc.out, HOT.out.next HXc.out⟩
        case measure => simp [intOf]; omega
    · have ek : lw = k := by omega
      subst ek
      have HF : Hid (growL R.edges (growW N R.edges r lw) (sing (lastsR N R.edges r)) = chainsR N R.nodes R.edges r) := by unfold Hid; rw [HCH2.out, HWL.out]
      clear hlt hkm
      go_wp2_with fail
      refine (l2Grow_any B w1.heap.size w1.heap.size _ _ _ _ _ _ R (growW N R.edges r lw) (sing (lastsR N R.edges r)) _ (by exact HROAD.out.next HXr.out) hm (by exact HO.out.held) (by exact HOT.out.held) HGL.out.2 (fun l hl => sing_good l hl) HGL.out.1 (by rw [HTL.out]; omega)).mono ?_
      rintro e wc ⟨⟨uc, rfl, hOc⟩, hxc⟩
      rw [HF.out] at hOc
      have HOc : Hid (OwnW w.heap.size wc uc ((chainsR N R.nodes R.edges r).map nums)) := hOc.base (HXr.out.size)
      have HXc : Hid (Nx w wc) := HXr.out.trans hxc
      clear hOc hxc k0 k1 k2 k3 k4 k5 k6 k7 k8 kl
      go_wp2
      go_ret
      exact ⟨⟨_, rfl, HOc.out⟩, HXc.out⟩
  · rw [hvia] at kv HCH
    have HCH2 : Hid (chainsR N R.nodes R.edges r = growL R.edges (sing ((firstsR N R.edges r).filter (atNode R.nodes R.edges r.node))) (sing (lastsR N R.edges r))) := by unfold Hid; rw [HCH.out]; rfl
    clear HCH hvia
    have HFM : Hid (∀ k, k < fl → (firstsR N R.edges r).getD k 0 < R.edges.length) := fun k hk => by
      have hk' : k < (firstsR N R.edges r).length := by have := HFLS.out; rw [sing_len] at this; omega
      have e : (firstsR N R.edges r).getD k 0 = (firstsR N R.edges r)[k] := by simp [List.getD_eq_getElem?_getD, hk']
      rw [e]
      have := List.getElem_mem hk'
      unfold firstsR ofTo at this
      exact List.mem_range.1 (List.mem_filter.1 this).1
    have HFN : Hid ((firstsR N R.edges r).length = fl) := by have := HFLS.out; rw [sing_len] at this; exact this
    generalize firstsR N R.edges r = F at *
    go_wp2
    go_loopw [9, 10] (fun u i wr => ∃ k : Nat, k ≤ fl ∧ i = .int .i64 k ∧ Hid (OwnV w3.heap.size w1.heap.size wr u ((sing ((F.take k).filter (atNode R.nodes R.edges r.node))).map nums)) ∧ Hid (Nx w3 wr)) (fun _ i _ => fl - (intOf i).toNat)
    case atStart => exact ⟨0, Nat.zero_le _, rfl, ownV_none w1.heap.size w3, box1 _ _⟩
    clear kv
    obtain ⟨k, hkm, rfl, HO, HN3⟩ := hrel
    have HN : Hid (Nx w1 wr) := HX1w3.out.trans HN3.out
    have HXr : Hid (Nx w wr) := HX1.out.trans HN.out
    have HOFr : Hid (OwnW w1.heap.size wr (.slice fa fl fc) ((sing F).map nums)) := HOF.out.next HN3.out
    have HOTr : Hid (OwnW w1.heap.size wr (.slice ta tl tc) ((sing (lastsR N R.edges r)).map nums)) := HOT.out.next HN3.out
    have k0 : wr.cell? ⟨w.heap.size, 0, none⟩ = some (.slice a0 l0 q0) := (BN.out.next HN.out).cell (i := 0) rfl
    have k1 : wr.cell? ⟨w.heap.size, 1, none⟩ = some (.slice a1 l1 q1) := (BN.out.next HN.out).cell (i := 1) rfl
    have k2 : wr.cell? ⟨w.heap.size, 2, none⟩ = some (.slice a2 l2 q2) := (BN.out.next HN.out).cell (i := 2) rfl
    have k3 : wr.cell? ⟨w.heap.size, 3, none⟩ = some (.slice a3 l3 q3) := (BN.out.next HN.out).cell (i := 3) rfl
    have k4 : wr.cell? ⟨w.heap.size, 4, none⟩ = some (.int .i64 N.uturn) := (BN.out.next HN.out).cell (i := 4) rfl
    have k5 : wr.cell? ⟨w.heap.size + 1, 0, none⟩ = some (.slice a4 l4 q4) := (BR.out.next HN.out).cell (i := 0) rfl
    have k6 : wr.cell? ⟨w.heap.size + 1, 1, none⟩ = some (.slice a5 l5 q5) := (BR.out.next HN.out).cell (i := 1) rfl
    have k7 : wr.cell? ⟨w.heap.size + 1, 2, none⟩ = some (.slice a6 l6 q6) := (BR.out.next HN.out).cell (i := 2) rfl
    have k8 : wr.cell? ⟨w.heap.size + 1, 3, none⟩ = some (.slice a7 l7 q7) := (BR.out.next HN.out).cell (i := 3) rfl
    by_cases hlt : k < fl
    case neg =>
      have ek : fl = k := by omega
      subst ek
      have HO := HO.out.own HX1w3.out.size
      have HO : Hid (OwnW w1.heap.size wr u9 ((sing ((F.take fl).filter (atNode R.nodes R.edges r.node))).map nums)) := HO
      obtain ⟨ua, uc, hue⟩ := HO.out.slice
      generalize hul : ((sing ((F.take fl).filter (atNode R.nodes R.edges r.node))).map nums).length = ul at hue
      subst hue
      have HTA : Hid (F.take fl = F) := by unfold Hid; rw [← HFN.out, List.take_length]
      have HUL : Hid ((sing ((F.take fl).filter (atNode R.nodes R.edges r.node))).length ≤ 1000000 ∧ ∀ l ∈ sing ((F.take fl).filter (atNode R.nodes R.edges r.node)), goodL R.edges.length l) := by
        rw [HTA.out]
        refine ⟨?_, fun l hl => ?_⟩
        · rw [sing_len]
          have := List.length_filter_le (atNode R.nodes R.edges r.node) F
          have := HFN.out
          omega
        · obtain ⟨e, he, rfl⟩ := List.mem_map.1 hl
          refine ⟨by simp, by simp, fun x hx => ?_⟩
          have hxe : x = e := by simpa using hx
          subst hxe
          obtain ⟨j, hj, hje⟩ := List.mem_iff_getElem.1 (List.mem_filter.1 he).1
          have := HFM.out j (by rw [← HFN.out]; exact hj)
          rw [show F.getD j 0 = F[j] by simp [List.getD_eq_getElem?_getD, hj], hje] at this
          exact this
      have HF : Hid (growL R.edges (sing ((F.take fl).filter (atNode R.nodes R.edges r.node))) (sing (lastsR N R.edges r)) = chainsR N R.nodes R.edges r) := by unfold Hid; rw [HCH2.out, HTA.out]
      clear hlt hkm hul
      go_wp2_with fail
      refine (l2Grow_any B w1.heap.size w1.heap.size _ _ _ _ _ _ R _ (sing (lastsR N R.edges r)) _ (by exact HROAD.out.next HXr.out) hm (by exact HO.out.held) (by exact HOTr.out.held) HUL.out.2 (fun l hl => sing_good l hl) HUL.out.1 (by rw [HTL.out]; omega)).mono ?_
      rintro e wc ⟨⟨uc, rfl, hOc⟩, hxc⟩
      rw [HF.out] at hOc
      have HOc : Hid (OwnW w.heap.size wc uc ((chainsR N R.nodes R.edges r).map nums)) := hOc.base (HXr.out.size)
      have HXc : Hid (Nx w wc) := HXr.out.trans hxc
      clear hOc hxc k0 k1 k2 k3 k4 k5 k6 k7 k8
      go_wp2
      go_ret
      exact ⟨⟨_, rfl, HOc.out⟩, HXc.out⟩
    have hlt' : (k : Int) < fl := by omega
    have HKF : Hid (k < F.length) := by unfold Hid; rw [HFN.out]; exact hlt
    have HFE := HFM.out k hlt
    have HYES : Hid (atNode R.nodes R.edges r.node (F.getD k 0) = true → (sing ((F.take (k + 1)).filter (atNode R.nodes R.edges r.node))).map nums = (sing ((F.take k).filter (atNode R.nodes R.edges r.node))).map nums ++ [[((F.getD k 0 : Nat) : Int)]]) := fun h => filt_yes HKF.out h
    have HNO : Hid (atNode R.nodes R.edges r.node (F.getD k 0) = false → (F.take (k + 1)).filter (atNode R.nodes R.edges r.node) = (F.take k).filter (atNode R.nodes R.edges r.node)) := fun h => filt_no HKF.out h
    obtain ⟨gf, uk, hfa, hck, hOk⟩ := HOFr.out.at (i := k) (by rw [List.length_map, sing_len]; exact HKF.out)
    rw [sing_wd HKF.out] at hOk
    subst hfa
    have HOK : Hid (OwnI w1.heap.size wr uk [((F.getD k 0 : Nat) : Int)]) := hOk
    obtain ⟨wa, wcp, hue⟩ := hOk.slice
    simp only [List.length_singleton] at hue
    subst hue
    obtain ⟨gw, hwa, hc0⟩ : ∃ gw, wa = some ⟨gw, 0, none⟩ ∧ wr.cell? ⟨gw, 0, none⟩ = some (.int .i64 ((F.getD k 0 : Nat) : Int)) := by
      rcases hOk.opened with ⟨e, h2⟩ | ⟨g, cap, e, _, _, hr⟩
      · simp at h2
      · simp only [Value.slice.injEq] at e
        exact ⟨g, e.1, hr.cell (i := 0) (by simp)⟩
    subst hwa
    obtain ⟨ez, be, oe, ha5, hbe, hce⟩ := HEdges.at' HROAD.out.2.1 (by omega)
    subst ha5
    have z1 := (hce _ HFE).2.1
    have hh := HR.out.hd _ HFE
    have HAT : Hid (atNode R.nodes R.edges r.node (F.getD k 0) = decide (iat R.nodes (eat R.edges (F.getD k 0)).head.toNat = r.node)) := rfl
    generalize F.getD k 0 = fe at *
    obtain ⟨hn, hhn⟩ : ∃ hn : Nat, (eat R.edges fe).head = (hn : Int) := ⟨(eat R.edges fe).head.toNat, by omega⟩
    rw [hhn] at z1 HAT hh
    rw [Int.toNat_natCast] at HAT
    have HNL : Hid (R.nodes.length = l4) := ints_len HROAD.out.1
    have hn4 : hn < l4 := by have := HNL.out; omega
    obtain ⟨bn, on, ha4, hbn, hcn⟩ := cell_of' HROAD.out.1 HXr.out hn4
    subst ha4
    have hm5 : (fe : Int) < l5 := by omega
    have hn4' : (hn : Int) < l4 := by omega
    have a1 := cellq HXr.out z1
    have kn := (BL.out.next HN.out).cell (i := 5) rfl
    clear hce z1 hh ez hhn hOk
    generalize iat R.nodes hn = nd at *
    by_cases hat : nd = r.node
    case neg =>
      have g1 : (nd == r.node) = false := by simpa using hat
      have HE2 := HNO.out (by rw [HAT.out]; simpa using hat)
      have HE3 : Hid ((F.take (k + 1)).filter (atNode R.nodes R.edges r.node) = (F.take k).filter (atNode R.nodes R.edges r.node)) := HE2
      clear hat HE2
      go_upto_region 8 with fail
      go_quiet (fail)
      have HDQ : Hid (Nx wr (wr.drewN nq)) := nx_drewN _ _
      generalize wr.drewN nq = wq at *
      clear k0 k1 k2 k3 k4 k5 k6 k7 k8 a1 kn hcn hc0 hck
      go_wp2
      go_roundw
      case rel => exact ⟨k + 1, by omega, by go_num, by unfold Hid; rw [HE3.out]; exact HO.out.next HDQ.out, HN3.out.trans HDQ.out⟩
      case measure => simp [intOf]; omega
    have g1 : (nd == r.node) = true := by simpa using hat
    have HES : Hid ((sing ((F.take (k + 1)).filter (atNode R.nodes R.edges r.node))).map nums = (sing ((F.take k).filter (atNode R.nodes R.edges r.node))).map nums ++ [[(fe : Int)]]) := HYES.out (by rw [HAT.out]; simpa using hat)
    have HLN : Hid (((sing ((F.take k).filter (atNode R.nodes R.edges r.node))).map nums).length ≤ 4000) := by
      unfold Hid
      rw [List.length_map, sing_len]
      have := List.length_filter_le (atNode R.nodes R.edges r.node) (F.take k)
      rw [List.length_take] at this
      omega
    clear hat
    go_upto_region 8 with fail
    go_quiet (fail)
    have HDQ : Hid (Nx wr (wr.drewN nq)) := nx_drewN _ _
    generalize wr.drewN nq = wq at *
    have hckq := cellq HDQ.out hck
    have HOKq : Hid (OwnI w1.heap.size wq (.slice (some ⟨gw, 0, none⟩) 1 wcp) [(fe : Int)]) := HOK.out.next HDQ.out
    have HOq : Hid (OwnV w3.heap.size w1.heap.size wq u9 ((sing ((F.take k).filter (atNode R.nodes R.edges r.node))).map nums)) := HO.out.next HDQ.out
    have HNq : Hid (Nx w1 wq) := HN.out.trans HDQ.out
    have HN3q : Hid (Nx w3 wq) := HN3.out.trans HDQ.out
    clear k0 k1 k2 k3 k4 k5 k6 k7 k8 a1 kn hcn hc0 hck HOK HO
    generalize (sing ((F.take k).filter (atNode R.nodes R.edges r.node))).map nums = ws at *
    obtain ⟨cs, hrow, hwords⟩ := HOq.out
    have HROW : Hid (wq.ownsRow w3.heap.size 102 1 u9 ws.length cs) := hrow
    have HWD : Hid (∀ i, i < ws.length → OwnI w1.heap.size wq (vat cs i) (wd ws i)) := hwords
    obtain ⟨ua, uc, hue⟩ := (HOq.out.own HX1w3.out.size).slice
    subst hue
    generalize hwl : ws.length = wl at *
    have HWL2 : Hid (ws.length = wl) := hwl
    have hwl4 : wl ≤ 4000 := HLN.out
    have HSQ : Hid (w3.heap.size ≤ wq.heap.size) := HN3q.out.size
    clear hrow hwords hwl
    go_wp2_with (at_builtin; refine wpList_append_own_at _ rfl _ _ 97 rfl w3.heap.size 102 ii (.agg #[.slice none 0 0]) 1 24 Tryz.underlying97 hi hz0 hz1 hz2 rfl (by decide) _ _ _ rfl (World.ownsRow.alloc HROW.out _) ⟨wq.heap.size, 0, none⟩ 1 1 [.slice (some ⟨gw, 0, none⟩) 1 wcp] rfl rfl ?e1 ?e2 ?e3 ?e4 ?e5 ?_)
    case e1 => intro j u hj; exact new_cells _ _ _ _ rfl j u hj
    case e2 => intro u hu; simp at hu; subst hu; rfl
    case e3 => unfold maxLen; omega
    case e4 => omega
    case e5 => rw [size_alloc']; have := HSQ.out; omega
    intro v7 w7 hown hgrow _ hat7
    have HO7 : Hid (OwnV w3.heap.size w1.heap.size w7 v7 ((sing ((F.take (k + 1)).filter (atNode R.nodes R.edges r.node))).map nums)) := by unfold Hid; rw [HES.out]; exact OwnV.snoc (by rw [HWL2.out]; exact HROW.out) (fun i hi => HWD.out i (by rw [← HWL2.out]; exact hi)) HOKq.out _ hgrow (by rw [HWL2.out]; exact hown)
    have HN7 : Hid (Nx w3 w7) := Below.grown (HN3q.out.alloc _) hgrow (by rw [size_alloc']; have := HSQ.out; omega) (fun g hg => (own_lt HROW.out g hg).1)
    clear hown hgrow hat7 hckq
    go_wp2
    go_roundw
    case rel => exact ⟨k + 1, by omega, by go_num, HO7, HN7⟩
    case measure => simp [intOf]; omega
end Go.Proofs.YtcdjmpbdaiafgaaGreatDoor
