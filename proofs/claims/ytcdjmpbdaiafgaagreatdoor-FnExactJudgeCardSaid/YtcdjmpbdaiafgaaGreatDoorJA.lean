import Derived.Test.YtcdjmpbdaiafgaaGreatDoorMI
import Derived.Test.YtcdjmpbdaiafgaaGreatDoorRoP
import Derived.Test.YtcdjmpbdaiafgaaGreatDoorNets
import Derived.Test.YtcdjmpbdaiafgaaGreatDoorImN
import Derived.Test.YtcdjmpbdaiafgaaGreatDoorRoR
import Derived.Test.YtcdjmpbdaiafgaaGreatDoorRoI
import Derived.Test.YtcdjmpbdaiafgaaGreatDoorKK
namespace Go.Proofs.YtcdjmpbdaiafgaaGreatDoor
open Go.RowKit Go.Sort
set_option linter.unusedVariables false
set_option maxRecDepth 100000

theorem seq_short {N : Nt} (hv : implValid N = true) : ∀ k, k ≤ N.rels.length → ∀ x ∈ (resTo (chP N) N.rels k).rules, x.seq.length ≤ 16002
  | 0, _, x, hx => by simp [resTo] at hx
  | k + 1, hk, x, hx => by
    have hx' : x ∈ (resStep (resTo (chP N) N.rels k) (rat N.rels k) (chP N (rat N.rels k))).rules := hx
    unfold resStep at hx'
    split at hx'
    · rename_i hr
      rcases List.mem_append.1 hx' with g | g
      · exact seq_short hv k (by omega) x g
      · have hone : (chP N (rat N.rels k)).length = 1 := by
          unfold reason at hr
          split at hr
          · omega
          · split at hr
            · omega
            · omega
        have := List.mem_singleton.1 g
        rw [this]
        show (nums _).length ≤ _
        rw [nums_len]
        exact (chP_ok hv (rel_g ((rels_in hv).rel k (by omega))) _ (lsat_one hone)).1
    · exact seq_short hv k (by omega) x hx'
theorem res_len (N : Nt) : (resOf N).rules.length ≤ 1000 ∧ (resOf N).drops.length ≤ 1000 ∧ ∀ i, i < (resOf N).rules.length → (ruat (resOf N).rules i).seq.length ≤ 1000000 := by
  cases hv : implValid N
  · have e : resOf N = ⟨[], []⟩ := by unfold resOf; rw [hv]; rfl
    rw [e]
    exact ⟨by simp, by simp, fun i hi => absurd hi (Nat.not_lt_zero _)⟩
  · rw [res_same hv]
    have h1 := resTo_len (chP N) N.rels N.rels.length
    have h2 := (rels_in hv).cnt
    refine ⟨by omega, by omega, fun i hi => ?_⟩
    have h3 := seq_short hv N.rels.length (Nat.le_refl _) _ (List.getElem_mem hi)
    rw [ruat_eq hi]
    omega

end Go.Proofs.YtcdjmpbdaiafgaaGreatDoor
namespace Go.Proofs.YtcdjmpbdaiafgaaGreatDoor
open Go.RowKit Go.Sort
set_option linter.unusedVariables false
set_option maxRecDepth 100000

-- the model of Judge: suffixes, costs, reasons
/-- seq is what the first k of walk end with -/
def sfx (walk : List Int) (k : Nat) (seq : List Int) : Bool := decide (seq.length ≤ k ∧ ∀ i, i < seq.length → iat walk (k - seq.length + i) = iat seq i)
set_option maxHeartbeats 1000000 in
theorem l2Suffix_any (B B' : Nat) (v v' : Value) (walk seq : List Int) (k : Nat) (w : World) (h0 : HInts B w v walk) (h1 : HInts B' w v' seq) (hkw : k ≤ walk.length) :
    Calls Tryz.prog 79 #[v, .int .i64 (k : Int), v'] w fun e w' => e = .returned (.bool (sfx walk k seq)) ∧ Nx w w' := by
  obtain ⟨a, cap, rfl, hn, hk⟩ := h0
  obtain ⟨a', cap', rfl, hn', hk'⟩ := h1
  unfold maxLen at hn hn'
  generalize hz : walk.length = n at *
  generalize hz' : seq.length = m at *
  have HM : Hid (seq.length = m) := hz'
  clear hz hz'
  by_cases hl : k < m
  case pos =>
    have hd : (k : Int) < m := by omega
    have HF : Hid (false = sfx walk k seq) := by
      unfold Hid sfx
      symm
      rw [decide_eq_false_iff_not, HM.out]
      omega
    go_enter Tryz.func79, Tryz.ntmps79
    go_wp2
    go_ret
    exact ⟨ret_bool HF.out, Nx.refl _⟩
  have hd : ¬ (k : Int) < m := by omega
  go_enter Tryz.func79, Tryz.ntmps79
  go_wp2
  go_loopw [7] (fun i wr => ∃ j : Nat, j ≤ m ∧ i = .int .i64 j ∧ Hid (∀ i, i < j → iat walk (k - m + i) = iat seq i) ∧ Hid (Nx w wr)) (fun i _ => m - (intOf i).toNat)
  case atStart => exact ⟨0, Nat.zero_le _, rfl, fun i hi => absurd hi (Nat.not_lt_zero _), Nx.refl _⟩
  obtain ⟨j, hjm, rfl, HA, HN⟩ := hrel
  by_cases hlt : j < m
  · obtain ⟨b, off, rfl, hB, hb, hc⟩ := hk (by omega)
    obtain ⟨b', off', rfl, hB', hb', hc'⟩ := hk' (by omega)
    have c0 := cell_next HN.out hb (hc (k - m + j) (by omega))
    have c1 := cell_next HN.out hb' (hc' j hlt)
    have hlt' : (j : Int) < m := by omega
    have hix : (k : Int) - m + j = ((k - m + j : Nat) : Int) := by omega
    have hib : ((k - m + j : Nat) : Int) < n := by omega
    have hi0 : (0 : Int) ≤ ((k - m + j : Nat) : Int) := by omega
    clear hc hk hc' hk'
    generalize hx : k - m + j = x at *
    have HX : Hid (k - m + j = x) := hx
    by_cases he : iat walk x = iat seq j
    · have hne : (iat walk x != iat seq j) = false := by simp [he]
      have HAN : Hid (∀ i, i < j + 1 → iat walk (k - m + i) = iat seq i) := fun i hi => by
        rcases Nat.lt_succ_iff_lt_or_eq.1 hi with h1 | rfl
        · exact HA.out i h1
        · rw [HX.out]; exact he
      clear he hx
      go_wp2
      go_quiet (fail)
      go_wp2
      go_roundw
      case rel => exact ⟨j + 1, by omega, by go_num, HAN, HN.out.trans (nx_drewN _ _)⟩
      case measure => simp [intOf]; omega
    · have hne : (iat walk x != iat seq j) = true := by simpa using he
      have HF : Hid (false = sfx walk k seq) := by
        unfold Hid sfx
        symm
        rw [decide_eq_false_iff_not, HM.out]
        intro hh
        exact he (by rw [← HX.out]; exact hh.2 j hlt)
      clear he hx
      go_wp2
      go_quiet (fail)
      go_wp2
      go_ret
      exact ⟨ret_bool HF.out, HN.out.trans (nx_drewN _ _)⟩
  · have ej : j = m := by omega
    subst ej
    have HF : Hid (true = sfx walk k seq) := by
      unfold Hid sfx
      symm
      rw [decide_eq_true_iff, HM.out]
      exact ⟨by omega, HA.out⟩
    go_wp2
    go_ret
    exact ⟨ret_bool HF.out, HN.out⟩
/-- what the turns from one way to another cost, the first k of them -/
def turnTo (ts : List Tn) (a b : Int) : Nat → Int
  | 0 => 0
  | k + 1 => turnTo ts a b k + if (tat ts k).frm = a ∧ (tat ts k).to = b then (tat ts k).cost else 0
def wayId (N : Nt) (es : List Eg) (e : Nat) : Int := (wat N.ways (eat es e).way.toNat).id
def turnC (N : Nt) (es : List Eg) (e f : Nat) : Int := turnTo N.turns (wayId N es e) (wayId N es f) N.turns.length + if (eat es e).twin = (f : Int) then N.uturn else 0
/-- what the first k edges of a walk cost -/
def costTo (N : Nt) (es : List Eg) (walk : List Int) : Nat → Int
  | 0 => 0
  | k + 1 => costTo N es walk k + (eat es (iat walk k).toNat).weight + if k = 0 then 0 else turnC N es (iat walk (k - 1)).toNat (iat walk k).toNat
end Go.Proofs.YtcdjmpbdaiafgaaGreatDoor
namespace Go.Proofs.YtcdjmpbdaiafgaaGreatDoor
open Go.RowKit Go.Sort
set_option linter.unusedVariables false
set_option maxRecDepth 100000

/-- what the model's costs want of a network and its road -/
structure CostIn (N : Nt) (es : List Eg) : Prop where
  way : ∀ e, e < es.length → ∃ i : Nat, i < N.ways.length ∧ (eat es e).way = i
  cost : ∀ i, i < N.turns.length → 0 ≤ (tat N.turns i).cost ∧ (tat N.turns i).cost ≤ 1048576
  turns : N.turns.length ≤ 2000
  uturn : 0 ≤ N.uturn ∧ N.uturn ≤ 1048576
  weight : ∀ e, e < es.length → 0 ≤ (eat es e).weight ∧ (eat es e).weight ≤ 1048576
theorem turnTo_le {N : Nt} {es : List Eg} (h : CostIn N es) (a b : Int) : ∀ k, k ≤ N.turns.length → 0 ≤ turnTo N.turns a b k ∧ turnTo N.turns a b k ≤ 1048576 * k
  | 0, _ => by simp [turnTo]
  | k + 1, hk => by
    have h1 := turnTo_le h a b k (by omega)
    have h2 := h.cost k (by omega)
    unfold turnTo
    split <;> omega
theorem turnC_le {N : Nt} {es : List Eg} (h : CostIn N es) (e f : Nat) : 0 ≤ turnC N es e f ∧ turnC N es e f ≤ 3000000000 := by
  have h1 := turnTo_le h (wayId N es e) (wayId N es f) N.turns.length (Nat.le_refl _)
  have h2 := h.uturn
  have h3 := h.turns
  unfold turnC
  split <;> omega

set_option maxHeartbeats 4000000 in
theorem l2TurnCost_any (B0 B : Nat) (n0 n1 n2 n3 : Value) (N : Nt) (v0 v1 v2 v3 : Value) (R : Rd) (e f : Nat) (w : World) (hN : HNet B0 w n0 n1 n2 n3 N) (hR : HRoad B w v0 v1 v2 v3 R) (hc : CostIn N R.edges) (he : e < R.edges.length) (hf : f < R.edges.length) :
    Calls Tryz.prog 80 #[.agg #[n0, n1, n2, n3, .int .i64 N.uturn], .agg #[v0, v1, v2, v3], .int .i64 (e : Int), .int .i64 (f : Int)] w fun r w' => r = .returned (.int .i64 (turnC N R.edges e f)) ∧ Nx w w' := by
  have HC : Hid (CostIn N R.edges) := hc
  have HN : Hid (HNet B0 w n0 n1 n2 n3 N) := hN
  have HR : Hid (HRoad B w v0 v1 v2 v3 R) := hR
  obtain ⟨i, hi, hwi⟩ := hc.way e he
  obtain ⟨j, hj, hwj⟩ := hc.way f hf
  have HWE : Hid (wayId N R.edges e = (wat N.ways i).id) := by unfold Hid wayId; rw [hwi]; rfl
  have HWF : Hid (wayId N R.edges f = (wat N.ways j).id) := by unfold Hid wayId; rw [hwj]; rfl
  obtain ⟨a1, q1, e1, m1, k1⟩ := hN.2.1
  obtain ⟨b1, o1, ea1, _, _, c1⟩ := k1 (by omega)
  obtain ⟨a3, q3, e3, m3, k3⟩ := hN.2.2.2
  obtain ⟨r1, s1, f1, p1, t1⟩ := hR.2.1
  obtain ⟨rb, ro, fa1, _, _, ce⟩ := t1 (by omega)
  subst ea1 fa1
  obtain ⟨_, _, x0, _⟩ := c1 i hi
  obtain ⟨_, _, x1, _⟩ := c1 j hj
  obtain ⟨_, _, _, y0, _, _, y1⟩ := ce e he
  obtain ⟨_, _, _, z0, _, _, _⟩ := ce f hf
  rw [hwi] at y0
  rw [hwj] at z0
  unfold maxLen at m1 m3 p1
  generalize hn1 : N.ways.length = l1 at *
  generalize hn3 : N.turns.length = l3 at *
  generalize hre : R.edges.length = le at *
  have HN3 : Hid (N.turns.length = l3) := hn3
  have HTL : Hid (∀ k, k ≤ l3 → 0 ≤ turnTo N.turns (wat N.ways i).id (wat N.ways j).id k ∧ turnTo N.turns (wat N.ways i).id (wat N.ways j).id k ≤ 1048576 * k) := fun k hk => turnTo_le HC.out _ _ k (by rw [HN3.out]; exact hk)
  have hl3 : l3 ≤ 2000 := by have := HC.out.turns; rw [HN3.out] at this; exact this
  have hut := HC.out.uturn
  subst e1 e3 f1
  have h3 : (e : Int) < le := by omega
  have h4 : (f : Int) < le := by omega
  have h5 : (i : Int) < l1 := by omega
  have h6 : (j : Int) < l1 := by omega
  clear hN hR hc k1 c1 t1 ce hwi hwj hn1 hn3 hre
  generalize hWA : (w.alloc (.cells #[n0, .slice (some ⟨b1, o1, none⟩) l1 q1, n2, .slice a3 l3 q3, .int .i64 N.uturn] 38)).alloc (.cells #[v0, .slice (some ⟨rb, ro, none⟩) le s1, v2, v3] 60) = wA
  have HXA : Hid (Nx w wA) := by unfold Hid; rw [← hWA]; exact (box1 _ _).trans (box1 _ _)
  have HBN : Hid (BT wA w.heap.size #[n0, .slice (some ⟨b1, o1, none⟩) l1 q1, n2, .slice a3 l3 q3, .int .i64 N.uturn] 38) := by unfold Hid; rw [← hWA]; exact (BT.new w _ _ _ rfl).alloc _
  have HBR : Hid (BT wA (w.heap.size + 1) #[v0, .slice (some ⟨rb, ro, none⟩) le s1, v2, v3] 60) := by unfold Hid; rw [← hWA]; exact BT.new _ _ _ _ (by simp)
  have HX0 : Hid (w.cell? ⟨b1, o1 + i * 4, none⟩ = some (.int .i64 (wat N.ways i).id)) := x0
  have HX1 : Hid (w.cell? ⟨b1, o1 + j * 4, none⟩ = some (.int .i64 (wat N.ways j).id)) := x1
  have HY0 : Hid (w.cell? ⟨rb, ro + e * 7 + 3, none⟩ = some (.int .i64 (i : Int))) := y0
  have HY1 : Hid (w.cell? ⟨rb, ro + e * 7 + 6, none⟩ = some (.int .i64 (eat R.edges e).twin)) := y1
  have HZ0 : Hid (w.cell? ⟨rb, ro + f * 7 + 3, none⟩ = some (.int .i64 (j : Int))) := z0
  generalize (wat N.ways i).id = ide at *
  generalize (wat N.ways j).id = idf at *
  clear x0 x1 y0 y1 z0
  go_enter Tryz.func80, Tryz.ntmps80
  go_wp2
  try rw [hWA]
  generalize hbR : w.heap.size + 1 = bR at *
  clear hWA hbR
  go_loopw [9, 10] (fun c i wr => ∃ k : Nat, k ≤ l3 ∧ i = .int .i64 k ∧ c = .int .i64 (turnTo N.turns ide idf k) ∧ Hid (Nx wA wr)) (fun _ i _ => l3 - (intOf i).toNat)
  case atStart => exact ⟨0, Nat.zero_le _, rfl, rfl, Nx.refl _⟩
  obtain ⟨k, hkl, rfl, rfl, HX⟩ := hrel
  have hck := HTL.out k hkl
  have HXW : Hid (Nx w wr) := HXA.out.trans HX.out
  by_cases hlt : k < l3
  · obtain ⟨tb, tof, rfl, _, _, ct⟩ := k3 (by omega)
    obtain ⟨t0, t1, t2⟩ := ct k hlt
    have HST : Hid (turnTo N.turns ide idf (k + 1) = turnTo N.turns ide idf k + if (tat N.turns k).frm = ide ∧ (tat N.turns k).to = idf then (tat N.turns k).cost else 0) := rfl
    have hcb := HC.out.cost k (by rw [HN3.out]; exact hlt)
    have u0 := cellq HXW.out t0
    have u1 := cellq HXW.out t1
    have u2 := cellq HXW.out t2
    have w0 := cellq HXW.out HX0.out
    have w1 := cellq HXW.out HX1.out
    have w2 := cellq HXW.out HY0.out
    have w3 := cellq HXW.out HZ0.out
    have n1c := (HBN.out.next HX.out).blk.cell (i := 1) rfl
    have n3c := (HBN.out.next HX.out).blk.cell (i := 3) rfl
    have r1c := (HBR.out.next HX.out).blk.cell (i := 1) rfl
    generalize (tat N.turns k).frm = tf at *
    generalize (tat N.turns k).to = tt at *
    generalize (tat N.turns k).cost = tc at *
    generalize turnTo N.turns ide idf k = ck at *
    have hlt' : (k : Int) < l3 := by omega
    clear ct t0 t1 t2
    by_cases hA : tf = ide
    · have gA : (tf == ide) = true := by simpa using hA
      by_cases hB : tt = idf
      · have gB : (tt == idf) = true := by simpa using hB
        have HS : Hid (turnTo N.turns ide idf (k + 1) = ck + tc) := by unfold Hid; rw [HST.out, if_pos ⟨hA, hB⟩]
        clear hA hB
        go_wp2
        go_quiet (fail)
        have HDQ : Hid (Nx wr (wr.drewN nq)) := nx_drewN _ _
        generalize wr.drewN nq = wq at *
        have d2 := cellq HDQ.out u2
        have d3 := cellq HDQ.out n3c
        clear u0 u1 u2 w0 w1 w2 w3 n1c n3c r1c
        go_wp2
        go_roundw
        case rel => exact ⟨k + 1, by omega, by go_num, by rw [HS.out], HX.out.trans HDQ.out⟩
        case measure => simp [intOf]; omega
      · have gB : (tt == idf) = false := by simpa using hB
        have HS : Hid (turnTo N.turns ide idf (k + 1) = ck) := by unfold Hid; rw [HST.out, if_neg (fun h => hB h.2)]; omega
        clear hA hB
        go_wp2
        go_quiet (fail)
        have HDQ : Hid (Nx wr (wr.drewN nq)) := nx_drewN _ _
        generalize wr.drewN nq = wq at *
        clear u0 u1 u2 w0 w1 w2 w3 n1c n3c r1c
        go_wp2
        go_roundw
        case rel => exact ⟨k + 1, by omega, by go_num, by rw [HS.out], HX.out.trans HDQ.out⟩
        case measure => simp [intOf]; omega
    · have gA : (tf == ide) = false := by simpa using hA
      have HS : Hid (turnTo N.turns ide idf (k + 1) = ck) := by unfold Hid; rw [HST.out, if_neg (fun h => hA h.1)]; omega
      clear hA
      go_wp2
      go_quiet (fail)
      have HDQ : Hid (Nx wr (wr.drewN nq)) := nx_drewN _ _
      generalize wr.drewN nq = wq at *
      clear u0 u1 u2 w0 w1 w2 w3 n1c n3c r1c
      go_wp2
      go_roundw
      case rel => exact ⟨k + 1, by omega, by go_num, by rw [HS.out], HX.out.trans HDQ.out⟩
      case measure => simp [intOf]; omega
  · have ek : k = l3 := by omega
    subst ek
    have HT : Hid (turnC N R.edges e f = turnTo N.turns ide idf k + if (eat R.edges e).twin = (f : Int) then N.uturn else 0) := by unfold Hid turnC; rw [HWE.out, HWF.out, HN3.out]
    have y1 := cellq HXW.out HY1.out
    have r1c := (HBR.out.next HX.out).blk.cell (i := 1) rfl
    have n4c := (HBN.out.next HX.out).blk.cell (i := 4) rfl
    have n3c := (HBN.out.next HX.out).blk.cell (i := 3) rfl
    generalize turnTo N.turns ide idf k = ck at *
    generalize (eat R.edges e).twin = tw at *
    by_cases hA : tw = (f : Int)
    · have gA : (tw == (f : Int)) = true := by simpa using hA
      have HS : Hid (turnC N R.edges e f = ck + N.uturn) := by unfold Hid; rw [HT.out, if_pos hA]
      clear hA
      go_wp2
      go_ret
      exact ⟨by rw [HS.out]; rfl, HXW.out⟩
    · have gA : (tw == (f : Int)) = false := by simpa using hA
      have HS : Hid (turnC N R.edges e f = ck) := by unfold Hid; rw [HT.out, if_neg hA]; omega
      clear hA
      go_wp2
      go_ret
      exact ⟨by rw [HS.out]; rfl, HXW.out⟩
end Go.Proofs.YtcdjmpbdaiafgaaGreatDoor
namespace Go.Proofs.YtcdjmpbdaiafgaaGreatDoor
open Go.RowKit Go.Sort
set_option linter.unusedVariables false
set_option maxRecDepth 100000

theorem costTo_le {N : Nt} {es : List Eg} (h : CostIn N es) (walk : List Int) (k : Nat) (hin : ∀ j, j < k → 0 ≤ iat walk j ∧ iat walk j < es.length) : ∀ j, j ≤ k → 0 ≤ costTo N es walk j ∧ costTo N es walk j ≤ 4000000000 * j
  | 0, _ => by simp [costTo]
  | j + 1, hj => by
    have h1 := costTo_le h walk k hin j (by omega)
    have h2 := hin j (by omega)
    have h3 := h.weight (iat walk j).toNat (by omega)
    have h4 := turnC_le h (iat walk (j - 1)).toNat (iat walk j).toNat
    unfold costTo
    split <;> omega
set_option maxHeartbeats 4000000 in
theorem l2WalkCost_any (B0 B B1 : Nat) (n0 n1 n2 n3 : Value) (N : Nt) (v0 v1 v2 v3 : Value) (R : Rd) (vw : Value) (walk : List Int) (k : Nat) (w : World) (hN : HNet B0 w n0 n1 n2 n3 N) (hR : HRoad B w v0 v1 v2 v3 R) (hW : HInts B1 w vw walk) (hc : CostIn N R.edges) (hk : k ≤ walk.length) (hin : ∀ j, j < k → 0 ≤ iat walk j ∧ iat walk j < R.edges.length) (hk1 : k ≤ 10000) :
    Calls Tryz.prog 46 #[.agg #[n0, n1, n2, n3, .int .i64 N.uturn], .agg #[v0, v1, v2, v3], vw, .int .i64 (k : Int)] w fun r w' => r = .returned (.int .i64 (costTo N R.edges walk k)) ∧ Nx w w' := by
  have HC : Hid (CostIn N R.edges) := hc
  have HN : Hid (HNet B0 w n0 n1 n2 n3 N) := hN
  have HR : Hid (HRoad B w v0 v1 v2 v3 R) := hR
  have HW : Hid (HInts B1 w vw walk) := hW
  have HI : Hid (∀ j, j < k → 0 ≤ iat walk j ∧ iat walk j < R.edges.length) := hin
  have HCL : Hid (∀ j, j ≤ k → 0 ≤ costTo N R.edges walk j ∧ costTo N R.edges walk j ≤ 4000000000 * j) := costTo_le hc walk k hin
  obtain ⟨a0, q0, e0, _, _⟩ := hN.1
  obtain ⟨a1, q1, e1, _, _⟩ := hN.2.1
  obtain ⟨a2, q2, e2, _, _⟩ := hN.2.2.1
  obtain ⟨a3, q3, e3, _, _⟩ := hN.2.2.2
  obtain ⟨r0, z0, f0, _, _⟩ := hR.1
  obtain ⟨r1, z1, f1, mr, kr⟩ := hR.2.1
  obtain ⟨r2, z2, f2, _, _⟩ := hR.2.2.1
  obtain ⟨r3, z3, f3, _, _⟩ := hR.2.2.2
  obtain ⟨wa, cw, e4, mw, kw⟩ := hW
  unfold maxLen at mr mw
  generalize N.nodes.length = l0 at e0
  generalize N.ways.length = l1 at e1
  generalize N.rels.length = l2 at e2
  generalize N.turns.length = l3 at e3
  generalize R.nodes.length = y0 at f0
  generalize R.first.length = y2 at f2
  generalize R.out.length = y3 at f3
  generalize hy1 : R.edges.length = y1 at f1 mr kr HI hin
  generalize hnw : walk.length = nw at *
  subst e0 e1 e2 e3 e4 f0 f1 f2 f3
  have HY1 : Hid (R.edges.length = y1) := hy1
  clear hN hR hc hin hy1 hnw
  generalize hWA : (w.alloc (.cells #[.slice a0 l0 q0, .slice a1 l1 q1, .slice a2 l2 q2, .slice a3 l3 q3, .int .i64 N.uturn] 38)).alloc (.cells #[.slice r0 y0 z0, .slice r1 y1 z1, .slice r2 y2 z2, .slice r3 y3 z3] 60) = wA
  have HXA : Hid (Nx w wA) := by unfold Hid; rw [← hWA]; exact (box1 _ _).trans (box1 _ _)
  have HBN : Hid (BT wA w.heap.size #[.slice a0 l0 q0, .slice a1 l1 q1, .slice a2 l2 q2, .slice a3 l3 q3, .int .i64 N.uturn] 38) := by unfold Hid; rw [← hWA]; exact (BT.new w _ _ _ rfl).alloc _
  have HBR : Hid (BT wA (w.heap.size + 1) #[.slice r0 y0 z0, .slice r1 y1 z1, .slice r2 y2 z2, .slice r3 y3 z3] 60) := by unfold Hid; rw [← hWA]; exact BT.new _ _ _ _ (by simp)
  go_enter Tryz.func46, Tryz.ntmps46
  go_wp2
  try rw [hWA]
  generalize hbR : w.heap.size + 1 = bR at *
  clear hWA hbR
  go_loopw [9, 10] (fun c i wr => ∃ j : Nat, j ≤ k ∧ i = .int .i64 j ∧ c = .int .i64 (costTo N R.edges walk j) ∧ Hid (Nx wA wr)) (fun _ i _ => k - (intOf i).toNat)
  case atStart => exact ⟨0, Nat.zero_le _, rfl, rfl, Nx.refl _⟩
  obtain ⟨j, hjk, rfl, rfl, HX⟩ := hrel
  have hcj := HCL.out j hjk
  by_cases hlt : j < k
  · obtain ⟨bw, ow, rfl, _, _, cwk⟩ := kw (by omega)
    have hij := HI.out j hlt
    obtain ⟨y, hy⟩ : ∃ y : Nat, iat walk j = (y : Int) := ⟨(iat walk j).toNat, by omega⟩
    have hyl : y < y1 := by omega
    have HXW : Hid (Nx w wr) := HXA.out.trans HX.out
    have cy : wr.cell? ⟨bw, ow + j, none⟩ = some (.int .i64 (y : Int)) := by rw [← hy]; exact cellq HXW.out (cwk j (by omega))
    obtain ⟨rb, ro, rfl, _, _, ce⟩ := kr (by omega)
    obtain ⟨_, _, wy, _⟩ := ce y hyl
    have cwt := cellq HXW.out wy
    have bR1 := (HBR.out.next HX.out).blk.cell (i := 1) rfl
    have hwt := HC.out.weight y (by rw [HY1.out]; exact hyl)
    have HYY : Hid ((iat walk j).toNat = y) := by unfold Hid; omega
    have HST : Hid (costTo N R.edges walk (j + 1) = costTo N R.edges walk j + (eat R.edges y).weight + if j = 0 then 0 else turnC N R.edges (iat walk (j - 1)).toNat y) := by unfold Hid; show costTo N R.edges walk j + _ + _ = _; rw [HYY.out]
    generalize (eat R.edges y).weight = wt at *
    generalize hcj' : costTo N R.edges walk j = cj at *
    have hlt' : (j : Int) < k := by omega
    have hjn : (j : Int) < nw := by omega
    have hyl' : (y : Int) < y1 := by omega
    clear ce wy hcj' hij hy
    go_wp2
    go_quiet (fail)
    have HDQ : Hid (Nx wr (wr.drewN nq)) := nx_drewN _ _
    generalize wr.drewN nq = wq at *
    have HXQ : Hid (Nx wA wq) := HX.out.trans HDQ.out
    have HXWQ : Hid (Nx w wq) := HXA.out.trans HXQ.out
    have dy := cellq HDQ.out cy
    clear cwt bR1 cy
    by_cases hj0 : j = 0
    · subst hj0
      have HST' : Hid (costTo N R.edges walk (0 + 1) = cj + wt) := by unfold Hid; rw [HST.out]; simp
      clear cwk
      go_wp2
      go_roundw
      case rel => exact ⟨1, by omega, by go_num, by rw [HST'.out], HXQ⟩
      case measure => simp [intOf]; omega
    · have hi1 := HI.out (j - 1) (by omega)
      obtain ⟨x, hx⟩ : ∃ x : Nat, iat walk (j - 1) = (x : Int) := ⟨(iat walk (j - 1)).toNat, by omega⟩
      have hxl : x < y1 := by omega
      have dx : wq.cell? ⟨bw, ow + (j - 1), none⟩ = some (.int .i64 (x : Int)) := by rw [← hx]; exact cellq HXWQ.out (cwk (j - 1) (by omega))
      have HST' : Hid (costTo N R.edges walk (j + 1) = cj + wt + turnC N R.edges x y) := by
        unfold Hid
        rw [HST.out, if_neg hj0, show (iat walk (j - 1)).toNat = x by omega]
      have htc := turnC_le HC.out x y
      have hj1 : (0 : Int) < j := by omega
      have hj2 : (j : Int) - 1 = ((j - 1 : Nat) : Int) := by omega
      have hj3 : ((j - 1 : Nat) : Int) < nw := by omega
      have hj4 : (0 : Int) ≤ ((j - 1 : Nat) : Int) := by omega
      have hmx : Tryz.prog.follows .mixedOrders = true := by kernel_rfl
      have nb := HBN.out.next HXQ.out
      have rbq := HBR.out.next HXQ.out
      have HSN : Hid (∀ q, Nx wq q → (fun q => q.cell? ⟨w.heap.size, 0, none⟩ = some (.slice a0 l0 q0) ∧ q.cell? ⟨w.heap.size, 1, none⟩ = some (.slice a1 l1 q1) ∧ q.cell? ⟨w.heap.size, 2, none⟩ = some (.slice a2 l2 q2) ∧ q.cell? ⟨w.heap.size, 3, none⟩ = some (.slice a3 l3 q3) ∧ q.cell? ⟨w.heap.size, 4, none⟩ = some (.int .i64 N.uturn) ∧ q.cell? ⟨bR, 0, none⟩ = some (.slice r0 y0 z0) ∧ q.cell? ⟨bR, 1, none⟩ = some (.slice (some ⟨rb, ro, none⟩) y1 z1) ∧ q.cell? ⟨bR, 2, none⟩ = some (.slice r2 y2 z2) ∧ q.cell? ⟨bR, 3, none⟩ = some (.slice r3 y3 z3) ∧ q.cell? ⟨bw, ow + (j - 1), none⟩ = some (.int .i64 (x : Int)) ∧ q.cell? ⟨bw, ow + j, none⟩ = some (.int .i64 (y : Int))) q) := fun q hq => ⟨cellq hq (nb.blk.cell (i := 0) rfl), cellq hq (nb.blk.cell (i := 1) rfl), cellq hq (nb.blk.cell (i := 2) rfl), cellq hq (nb.blk.cell (i := 3) rfl), cellq hq (nb.blk.cell (i := 4) rfl), cellq hq (rbq.blk.cell (i := 0) rfl), cellq hq (rbq.blk.cell (i := 1) rfl), cellq hq (rbq.blk.cell (i := 2) rfl), cellq hq (rbq.blk.cell (i := 3) rfl), cellq hq dx, cellq hq dy⟩
      have HSS : Hid ((fun q => q.cell? ⟨w.heap.size, 0, none⟩ = some (.slice a0 l0 q0) ∧ q.cell? ⟨w.heap.size, 1, none⟩ = some (.slice a1 l1 q1) ∧ q.cell? ⟨w.heap.size, 2, none⟩ = some (.slice a2 l2 q2) ∧ q.cell? ⟨w.heap.size, 3, none⟩ = some (.slice a3 l3 q3) ∧ q.cell? ⟨w.heap.size, 4, none⟩ = some (.int .i64 N.uturn) ∧ q.cell? ⟨bR, 0, none⟩ = some (.slice r0 y0 z0) ∧ q.cell? ⟨bR, 1, none⟩ = some (.slice (some ⟨rb, ro, none⟩) y1 z1) ∧ q.cell? ⟨bR, 2, none⟩ = some (.slice r2 y2 z2) ∧ q.cell? ⟨bR, 3, none⟩ = some (.slice r3 y3 z3) ∧ q.cell? ⟨bw, ow + (j - 1), none⟩ = some (.int .i64 (x : Int)) ∧ q.cell? ⟨bw, ow + j, none⟩ = some (.int .i64 (y : Int))) wq.drew) := ⟨nb.blk.cell (i := 0) rfl, nb.blk.cell (i := 1) rfl, nb.blk.cell (i := 2) rfl, nb.blk.cell (i := 3) rfl, nb.blk.cell (i := 4) rfl, rbq.blk.cell (i := 0) rfl, rbq.blk.cell (i := 1) rfl, rbq.blk.cell (i := 2) rfl, rbq.blk.cell (i := 3) rfl, dx, dy⟩
      generalize hcw : cj + wt = cjw at *
      clear cwk nb rbq dx dy hx hi1
      go_upto_region 7 with fail
      refine (wpIn_wide (n := 9)).1 ?_
      refine wpIn_region_S (c := 13) (S := fun q => q.cell? ⟨w.heap.size, 0, none⟩ = some (.slice a0 l0 q0) ∧ q.cell? ⟨w.heap.size, 1, none⟩ = some (.slice a1 l1 q1) ∧ q.cell? ⟨w.heap.size, 2, none⟩ = some (.slice a2 l2 q2) ∧ q.cell? ⟨w.heap.size, 3, none⟩ = some (.slice a3 l3 q3) ∧ q.cell? ⟨w.heap.size, 4, none⟩ = some (.int .i64 N.uturn) ∧ q.cell? ⟨bR, 0, none⟩ = some (.slice r0 y0 z0) ∧ q.cell? ⟨bR, 1, none⟩ = some (.slice (some ⟨rb, ro, none⟩) y1 z1) ∧ q.cell? ⟨bR, 2, none⟩ = some (.slice r2 y2 z2) ∧ q.cell? ⟨bR, 3, none⟩ = some (.slice r3 y3 z3) ∧ q.cell? ⟨bw, ow + (j - 1), none⟩ = some (.int .i64 (x : Int)) ∧ q.cell? ⟨bw, ow + j, none⟩ = some (.int .i64 (y : Int))) hmx (by kernel_rfl) (fun hw hcl => ?_)
      refine anyS_take (i := 0) (v := .int .i64 cjw) hw (by decide) hcl (noDefer_none rfl) rfl (by kernel_rfl) (by kernel_rfl) (by kernel_rfl) (fun _ _ _ h => h) ⟨Or.inl ⟨by kernel_rfl, ?y0⟩, fun _ => rfl⟩ HSS.out (fun hcl => ?_)
      case y0 =>
        rintro q ⟨c1, c2, c3, c4, c5, c6, c7, c8, c9, c10, c11⟩
        go_simp
      refine anyS_take (i := 1) (v := .agg #[.slice a0 l0 q0, .slice a1 l1 q1, .slice a2 l2 q2, .slice a3 l3 q3, .int .i64 N.uturn]) hw (by decide) hcl (noDefer_none rfl) rfl (by kernel_rfl) (by kernel_rfl) (by kernel_rfl) (fun _ _ _ h => h) ⟨Or.inl ⟨by kernel_rfl, ?y1⟩, fun _ => rfl⟩ HSS.out (fun hcl => ?_)
      case y1 =>
        rintro q ⟨c1, c2, c3, c4, c5, c6, c7, c8, c9, c10, c11⟩
        go_simp
      refine anyS_take (i := 2) (v := .agg #[.slice r0 y0 z0, .slice (some ⟨rb, ro, none⟩) y1 z1, .slice r2 y2 z2, .slice r3 y3 z3]) hw (by decide) hcl (noDefer_none rfl) rfl (by kernel_rfl) (by kernel_rfl) (by kernel_rfl) (fun _ _ _ h => h) ⟨Or.inl ⟨by kernel_rfl, ?y2⟩, fun _ => rfl⟩ HSS.out (fun hcl => ?_)
      case y2 =>
        rintro q ⟨c1, c2, c3, c4, c5, c6, c7, c8, c9, c10, c11⟩
        go_simp
      refine anyS_take (i := 3) (v := .slice (some ⟨bw, ow, none⟩) nw cw) hw (by decide) hcl (noDefer_none rfl) rfl (by kernel_rfl) (by kernel_rfl) (by kernel_rfl) (fun _ _ _ h => h) ⟨Or.inl ⟨by kernel_rfl, ?y3⟩, fun _ => rfl⟩ HSS.out (fun hcl => ?_)
      case y3 =>
        rintro q ⟨c1, c2, c3, c4, c5, c6, c7, c8, c9, c10, c11⟩
        go_simp
      refine anyS_take (i := 4) (v := .int .i64 (j : Int)) hw (by decide) hcl (noDefer_none rfl) rfl (by kernel_rfl) (by kernel_rfl) (by kernel_rfl) (fun _ _ _ h => h) ⟨Or.inl ⟨by kernel_rfl, ?y4⟩, fun _ => rfl⟩ HSS.out (fun hcl => ?_)
      case y4 =>
        rintro q ⟨c1, c2, c3, c4, c5, c6, c7, c8, c9, c10, c11⟩
        go_simp
      refine anyS_take (i := 5) (v := .int .i64 ((j - 1 : Nat) : Int)) hw (by decide) hcl (noDefer_none rfl) rfl (by kernel_rfl) (by kernel_rfl) (by kernel_rfl) (fun _ _ _ h => h) ⟨Or.inl ⟨by kernel_rfl, ?y5⟩, fun _ => rfl⟩ HSS.out (fun hcl => ?_)
      case y5 =>
        rintro q ⟨c1, c2, c3, c4, c5, c6, c7, c8, c9, c10, c11⟩
        go_simp
        exact Go.IntWalk.i64_in _ ⟨by omega, by omega⟩
      refine anyS_take (i := 6) (v := .pointer (some ⟨bw, ow + (j - 1), none⟩)) hw (by decide) hcl (noDefer_none rfl) rfl (by kernel_rfl) (by kernel_rfl) (by kernel_rfl) (fun _ _ _ h => h) ⟨Or.inl ⟨by kernel_rfl, ?y6⟩, fun _ => rfl⟩ HSS.out (fun hcl => ?_)
      case y6 =>
        rintro q ⟨c1, c2, c3, c4, c5, c6, c7, c8, c9, c10, c11⟩
        go_simp
      refine anyS_take (i := 7) (v := .int .i64 (x : Int)) hw (by decide) hcl (noDefer_none rfl) rfl (by kernel_rfl) (by kernel_rfl) (by kernel_rfl) (fun _ _ _ h => h) ⟨Or.inl ⟨by kernel_rfl, ?y7⟩, fun _ => rfl⟩ HSS.out (fun hcl => ?_)
      case y7 =>
        rintro q ⟨c1, c2, c3, c4, c5, c6, c7, c8, c9, c10, c11⟩
        go_simp
      refine anyS_take (i := 8) (v := .slice (some ⟨bw, ow, none⟩) nw cw) hw (by decide) hcl (noDefer_none rfl) rfl (by kernel_rfl) (by kernel_rfl) (by kernel_rfl) (fun _ _ _ h => h) ⟨Or.inl ⟨by kernel_rfl, ?y8⟩, fun _ => rfl⟩ HSS.out (fun hcl => ?_)
      case y8 =>
        rintro q ⟨c1, c2, c3, c4, c5, c6, c7, c8, c9, c10, c11⟩
        go_simp
      refine anyS_take (i := 9) (v := .int .i64 (j : Int)) hw (by decide) hcl (noDefer_none rfl) rfl (by kernel_rfl) (by kernel_rfl) (by kernel_rfl) (fun _ _ _ h => h) ⟨Or.inl ⟨by kernel_rfl, ?y9⟩, fun _ => rfl⟩ HSS.out (fun hcl => ?_)
      case y9 =>
        rintro q ⟨c1, c2, c3, c4, c5, c6, c7, c8, c9, c10, c11⟩
        go_simp
      refine anyS_take (i := 10) (v := .pointer (some ⟨bw, ow + j, none⟩)) hw (by decide) hcl (noDefer_none rfl) rfl (by kernel_rfl) (by kernel_rfl) (by kernel_rfl) (fun _ _ _ h => h) ⟨Or.inl ⟨by kernel_rfl, ?y10⟩, fun _ => rfl⟩ HSS.out (fun hcl => ?_)
      case y10 =>
        rintro q ⟨c1, c2, c3, c4, c5, c6, c7, c8, c9, c10, c11⟩
        go_simp
      refine anyS_take (i := 11) (v := .int .i64 (y : Int)) hw (by decide) hcl (noDefer_none rfl) rfl (by kernel_rfl) (by kernel_rfl) (by kernel_rfl) (fun _ _ _ h => h) ⟨Or.inl ⟨by kernel_rfl, ?y11⟩, fun _ => rfl⟩ HSS.out (fun hcl => ?_)
      case y11 =>
        rintro q ⟨c1, c2, c3, c4, c5, c6, c7, c8, c9, c10, c11⟩
        go_simp
      refine anyS_one (i := 12) (by kernel_rfl) (wpOpIn_step rfl (fun K hK => ?_))
      go_simp
      refine ⟨trivial, (callsIn_wide.2 (l2TurnCost_any B0 B _ _ _ _ N _ _ _ _ R x y _ (HN.out.next (HXWQ.out.trans (show Nx wq wq.drew from (Below.refl _ _).drew))) (HR.out.next (HXWQ.out.trans (show Nx wq wq.drew from (Below.refl _ _).drew))) HC.out (by rw [HY1.out]; exact hxl) (by rw [HY1.out]; exact hyl))).mono ?_⟩
      rintro e w7 ⟨rfl, hx7⟩
      have HX7 : Hid (Nx wA w7) := HXQ.out.trans ((show Nx wq wq.drew from (Below.refl _ _).drew).trans hx7)
      generalize hT : turnC N R.edges x y = tc at *
      refine hK _ _ ⟨Or.inr (HSN.out _ ((show Nx wq wq.drew from (Below.refl _ _).drew).trans hx7)), ?_⟩
      clear hK K hx7 hT
      refine anyS_one (i := 13) (by kernel_rfl) (wpOpIn_step rfl (fun K hK => ?_))
      go_simp
      refine hK _ _ ⟨Or.inl (by decide), ?_⟩
      clear hK K
      refine anyS_one (i := 14) (by kernel_rfl) (wpOpIn_step rfl (fun K hK => ?_))
      go_simp
      refine hK _ _ ⟨Or.inl (by decide), ?_⟩
      clear hK K
      refine anyS_done (by kernel_rfl) ?_ _
      clear hw hcl HSS
      go_wp2
      go_roundw
      case rel => exact ⟨j + 1, by omega, by go_num, by rw [HST'.out, Go.IntWalk.i64_in _ ⟨by omega, by omega⟩], HX7⟩
      case measure => simp [intOf]; omega
  · have ej : j = k := by omega
    subst ej
    go_wp2
    go_ret
    exact ⟨rfl, HXA.out.trans HX.out⟩
end Go.Proofs.YtcdjmpbdaiafgaaGreatDoor
namespace Go.Proofs.YtcdjmpbdaiafgaaGreatDoor
open Go.RowKit Go.Sort
set_option linter.unusedVariables false
set_option maxRecDepth 100000

-- the program's suffixes
set_option maxHeartbeats 1000000 in
theorem equal_any (B B' : Nat) (v v' : Value) (xs ys : List Int) (w : World) (h0 : HInts B w v xs) (h1 : HInts B' w v' ys) :
    Calls Tryz.prog 112 #[v, v'] w fun e w' => e = .returned (.bool (decide (xs = ys))) ∧ Nx w w' := by
  obtain ⟨a, cap, rfl, hn, hk⟩ := h0
  obtain ⟨a', cap', rfl, hn', hk'⟩ := h1
  unfold maxLen at hn hn'
  generalize hz : xs.length = n at *
  have HZ : Hid (xs.length = n) := hz
  clear hz
  generalize hz : ys.length = n' at *
  have HZ' : Hid (ys.length = n') := hz
  clear hz
  by_cases hl : n = n'
  case neg =>
    have hd : ((n : Int) != (n' : Int)) = true := by simp; omega
    have HF : Hid (false = decide (xs = ys)) := by
      unfold Hid
      symm
      rw [decide_eq_false_iff_not]
      intro e
      apply hl
      rw [← HZ.out, ← HZ'.out, e]
    clear hl
    go_enter Tryz.func112, Tryz.ntmps112
    go_wp2
    go_ret
    exact ⟨ret_bool HF.out, Nx.refl _⟩
  subst hl
  have hd : ((n : Int) != (n : Int)) = false := by simp
  go_enter Tryz.func112, Tryz.ntmps112
  go_wp2
  go_loopw [5, 13] (fun p5 i wr => ∃ k : Nat, k ≤ n ∧ i = .int .i64 k ∧ Hid (agTo xs ys k) ∧ Hid (Nx w wr)) (fun _ i _ => n - (intOf i).toNat)
  case atStart => exact ⟨0, Nat.zero_le _, rfl, agTo_zero _ _, Nx.refl _⟩
  obtain ⟨k, hkn, rfl, HA, HN⟩ := hrel
  by_cases hlt : k < n
  · obtain ⟨b, off, rfl, hB, hb, hc⟩ := hk (by omega)
    obtain ⟨b', off', rfl, hB', hb', hc'⟩ := hk' (by omega)
    have c0 := cell_next HN.out hb (hc k hlt)
    have c1 := cell_next HN.out hb' (hc' k hlt)
    have hlt' : (k : Int) < n := by omega
    clear hc hk hc' hk'
    by_cases he : iat xs k = iat ys k
    · have he' : (iat xs k != iat ys k) = false := by simpa using he
      have HA' : Hid (agTo xs ys (k + 1)) := agTo_succ HA.out he
      clear he
      go_wp2
      go_quiet (fail)
      go_wp2
      go_roundw
      case rel => exact ⟨k + 1, by omega, by go_num, HA', HN.out.trans (nx_drewN _ _)⟩
      case measure => simp [intOf]; omega
    · have he' : (iat xs k != iat ys k) = true := by simpa using he
      have HF : Hid (false = decide (xs = ys)) := by
        unfold Hid
        symm
        rw [decide_eq_false_iff_not]
        intro e
        exact he (by rw [e])
      clear he
      go_wp2
      go_quiet (fail)
      go_wp2
      go_ret
      exact ⟨ret_bool HF.out, HN.out.trans (nx_drewN _ _)⟩
  have ek : n = k := by omega
  subst ek
  have HF : Hid (true = decide (xs = ys)) := by
    unfold Hid
    symm
    rw [decide_eq_true_iff]
    exact ag_all (by rw [HZ.out]; exact HA.out) (by rw [HZ.out, HZ'.out])
  clear HA hlt hkn hk hk'
  go_wp2
  go_ret
  exact ⟨ret_bool HF.out, HN.out⟩
/-- xs ends with ys -/
def ewB (xs ys : List Int) : Bool := decide (ys.length ≤ xs.length ∧ xs.drop (xs.length - ys.length) = ys)
theorem HInts.drop {B : Nat} {w : World} {b off n cap : Nat} {xs : List Int} (h : HInts B w (.slice (some ⟨b, off, none⟩) n cap) xs) (s : Nat) (hs : s < n) (c : Nat) : HInts B w (.slice (some ⟨b, off + s, none⟩) (n - s) c) (xs.drop s) := by
  obtain ⟨a, cp, e, hm, hk⟩ := h
  simp only [Value.slice.injEq] at e
  obtain ⟨rfl, rfl, rfl⟩ := e
  have hl : (xs.drop s).length = xs.length - s := by simp
  refine ⟨_, _, by rw [hl], by rw [hl]; omega, fun _ => ?_⟩
  obtain ⟨b', o', e', hB, hb, hc⟩ := hk (by omega)
  simp only [Option.some.injEq, Addr.mk.injEq] at e'
  obtain ⟨rfl, rfl, _⟩ := e'
  refine ⟨b, off + s, rfl, hB, hb, fun i hi => ?_⟩
  rw [hl] at hi
  have := hc (s + i) (by omega)
  have e1 : iat (xs.drop s) i = iat xs (s + i) := by
    rw [iat_eq (by rw [hl]; exact hi), iat_eq (by omega)]
    simp
  show w.cell? ⟨b, off + s + i, none⟩ = _
  rw [e1, Nat.add_assoc]
  exact this
set_option maxHeartbeats 1000000 in
theorem endsWith_any (B B' : Nat) (b off n cap : Nat) (v' : Value) (xs ys : List Int) (w : World) (h0 : HInts B w (.slice (some ⟨b, off, none⟩) n cap) xs) (hcap : n ≤ cap) (h1 : HInts B' w v' ys) (hy : 1 ≤ ys.length) :
    Calls Tryz.prog 81 #[.slice (some ⟨b, off, none⟩) n cap, v'] w fun e w' => e = .returned (.bool (ewB xs ys)) ∧ Nx w w' := by
  have H0 : Hid (HInts B w (.slice (some ⟨b, off, none⟩) n cap) xs) := h0
  have H1 : Hid (HInts B' w v' ys) := h1
  obtain ⟨a1, c1, e0, hm, _⟩ := h0
  simp only [Value.slice.injEq] at e0
  obtain ⟨rfl, hnl, rfl⟩ := e0
  obtain ⟨a', cap', rfl, hn', _⟩ := h1
  unfold maxLen at hm hn'
  generalize hz' : ys.length = m at *
  have HM : Hid (ys.length = m) := hz'
  have HNL : Hid (xs.length = n) := hnl.symm
  rw [← hnl] at hm
  clear hz' hnl
  by_cases hl : m ≤ n
  case neg =>
    have hd : ¬ (0 : Int) ≤ (n : Int) - m := by omega
    have hd2 : ¬ (n : Int) - m ≥ 0 := by omega
    have HF : Hid (false = ewB xs ys) := by
      unfold Hid ewB
      symm
      rw [decide_eq_false_iff_not, HM.out, HNL.out]
      omega
    go_enter Tryz.func81, Tryz.ntmps81
    go_wp2
    go_ret
    exact ⟨ret_bool HF.out, Nx.refl _⟩
  have hsub : (n : Int) - m = ((n - m : Nat) : Int) := by omega
  have HF : Hid (decide (xs.drop (n - m) = ys) = ewB xs ys) := by
    unfold Hid ewB
    rw [HM.out, HNL.out]
    simp [hl]
  have HS : Hid (HInts B w (.slice (some ⟨b, off + (n - m), none⟩) (n - (n - m)) (cap - (n - m))) (xs.drop (n - m))) := H0.out.drop (n - m) (by omega) _
  generalize hs : n - m = s at *
  have hsn : s < n := by omega
  have hsc : ¬ cap = s := by omega
  have hsc2 : ¬ cap - s = 0 := by omega
  have hs0 : (0 : Int) ≤ (s : Int) := by omega
  have hsn' : (s : Int) ≤ n := by omega
  clear hs
  go_enter Tryz.func81, Tryz.ntmps81
  go_wp2_with (go_at_call 112; refine (equal_any B B' _ _ (xs.drop s) ys _ HS.out H1.out).mono ?_; rintro e w1 ⟨rfl, hx⟩)
  go_ret
  exact ⟨ret_bool HF.out, hx⟩
end Go.Proofs.YtcdjmpbdaiafgaaGreatDoor
namespace Go.Proofs.YtcdjmpbdaiafgaaGreatDoor
open Go.RowKit Go.Sort
set_option linter.unusedVariables false
set_option maxRecDepth 100000

def tkey (x : Tn) : Int := x.frm * 4194304 + x.to
def tIn (x : Tn) : Prop := 0 ≤ x.to ∧ x.to < 4194304
theorem cmpT_lt {s t : Tn} (hs : tIn s) (ht : tIn t) : decide (cmpT s t < 0) = decide (tkey s < tkey t) := by
  have h := cmpT_nonneg s t
  have e : decide (cmpT s t < 0) = ltTn s t := by
    by_cases q : cmpT s t < 0
    · have : decide (0 ≤ cmpT s t) = false := by simp; omega
      rw [this] at h
      simp [q]
      cases hl : ltTn s t
      · rw [hl] at h; simp at h
      · rfl
    · have : decide (0 ≤ cmpT s t) = true := by simp; omega
      rw [this] at h
      simp [q]
      cases hl : ltTn s t
      · rfl
      · rw [hl] at h; simp at h
  rw [e]
  unfold ltTn tkey
  unfold tIn at hs ht
  by_cases h1 : s.frm < t.frm
  · have : s.frm * 4194304 + s.to < t.frm * 4194304 + t.to := by omega
    simp [h1, this]
  · by_cases h2 : s.frm = t.frm
    · by_cases h3 : s.to < t.to
      · have : s.frm * 4194304 + s.to < t.frm * 4194304 + t.to := by omega
        simp [h2, h3]
      · have : ¬ s.frm * 4194304 + s.to < t.frm * 4194304 + t.to := by omega
        simp [h2, h3]
    · have : ¬ s.frm * 4194304 + s.to < t.frm * 4194304 + t.to := by omega
      have h4 : (s.frm == t.frm) = false := by simpa using h2
      simp only [h4, Bool.false_and, Bool.or_false]
      rw [decide_eq_decide]
      omega
theorem cmpT_zero {s t : Tn} : (cmpT s t == 0) = decide (s.frm = t.frm ∧ s.to = t.to) := by
  unfold cmpT orI cmpI
  by_cases h1 : s.frm < t.frm
  · have : ¬ (s.frm = t.frm ∧ s.to = t.to) := by omega
    simp [h1, this]
  · by_cases h2 : t.frm < s.frm
    · have : ¬ (s.frm = t.frm ∧ s.to = t.to) := by omega
      simp [h1, h2, this]
    · by_cases h3 : s.to < t.to
      · have : ¬ (s.frm = t.frm ∧ s.to = t.to) := by omega
        simp [h1, h2, h3, this]
      · by_cases h4 : t.to < s.to
        · have : ¬ (s.frm = t.frm ∧ s.to = t.to) := by omega
          simp [h1, h2, h3, h4, this]
        · have : s.frm = t.frm ∧ s.to = t.to := by omega
          simp [this]
theorem ascT_mono {zs : List Tn} (ha : ascT zs = true) (hb : ∀ i, i < zs.length → tIn (tat zs i)) : ∀ i j, i < j → j < zs.length → tkey (tat zs i) < tkey (tat zs j) := by
  intro i j hij
  induction j with
  | zero => omega
  | succ j ih =>
    intro hj
    have h1 : ltT zs j (j + 1) = true := by
      unfold ascT ascN at ha
      have := allN_at ha (i := j + 1) hj
      unfold ascAt at this
      simpa using this
    have h2 : tkey (tat zs j) < tkey (tat zs (j + 1)) := by
      have b1 := hb j (by omega)
      have b2 := hb (j + 1) hj
      unfold ltT ltTn at h1
      unfold tkey tIn at *
      simp only [Bool.or_eq_true, Bool.and_eq_true, decide_eq_true_eq, beq_iff_eq] at h1
      omega
    rcases Nat.lt_succ_iff_lt_or_eq.1 hij with q | rfl
    · have := ih q (by omega)
      omega
    · exact h2

set_option maxHeartbeats 2000000 in
theorem binTurns_any (B : Nat) (v : Value) (zs : List Tn) (t : Tn) (w : World) (h0 : HTurns B w v zs) (ha : ascT zs = true) (hb0 : ∀ i, i < zs.length → tIn (tat zs i)) (ht : tIn t) :
    Calls Tryz.prog 113 #[v, .agg #[.int .i64 t.frm, .int .i64 t.to, .int .i64 t.cost], .func (.func 101) #[] #[]] w fun e w' => (∃ (r : Nat) (b : Bool), e = .returned (.tuple #[.int .i64 (r : Int), .bool b]) ∧ (b = true → r < zs.length ∧ (tat zs r).frm = t.frm ∧ (tat zs r).to = t.to) ∧ (b = false → ∀ i, i < zs.length → ¬ ((tat zs i).frm = t.frm ∧ (tat zs i).to = t.to))) ∧ Nx w w' := by
  have hm : Hid (∀ i j, i < j → j < zs.length → tkey (tat zs i) < tkey (tat zs j)) := ascT_mono ha hb0
  have HB : Hid (∀ i, i < zs.length → tIn (tat zs i)) := hb0
  have HT : Hid (tIn t) := ht
  clear ha hb0 ht
  obtain ⟨a, cap, rfl, hn, hk⟩ := h0
  unfold maxLen at hn
  generalize hz : zs.length = n at *
  have HZ : Hid (zs.length = n) := hz
  clear hz
  go_enter Tryz.func113, Tryz.ntmps113
  go_wp2
  go_loopw [9, 10, 11] (fun i j h wr => ∃ lo hi : Nat, lo ≤ hi ∧ hi ≤ n ∧ i = .int .i64 lo ∧ j = .int .i64 hi ∧ Hid (Mid (fun i => tkey (tat zs i)) n (tkey t) lo hi) ∧ Hid (Nx (w.alloc (.cells #[.int .i64 t.frm, .int .i64 t.to, .int .i64 t.cost] 95)) wr)) (fun i j _ _ => (intOf j).toNat - (intOf i).toNat)
  case atStart => exact ⟨0, n, Nat.zero_le _, Nat.le_refl _, rfl, rfl, mid_start _ _ _, Nx.refl _⟩
  case round =>
    obtain ⟨lo, hi, h1, h2, rfl, rfl, hrel, HN⟩ := hrel
    have bx := (BT.new w #[.int .i64 t.frm, .int .i64 t.to, .int .i64 t.cost] 95 _ rfl).next HN.out
    have x0 := bx.blk.cell (i := 0) rfl
    have x1 := bx.blk.cell (i := 1) rfl
    have x2 := bx.blk.cell (i := 2) rfl
    clear bx
    have HNW : Hid (Nx w wr) := (box1 w _).trans HN.out
    have hwr : w.heap.size < wr.heap.size := Nat.lt_of_lt_of_le (size_box w _) HN.out.size
    by_cases hlt : lo < hi
    · obtain ⟨b, off, rfl, hB, hb, hc⟩ := hk (by omega)
      obtain ⟨h, hh, hh1, hh2⟩ := halve lo hi hlt (by omega)
      obtain ⟨a0, a1, a2⟩ := hc h (by omega)
      have hbr : b < wr.heap.size := Nat.lt_of_lt_of_le hb HNW.out.size
      have a0 := cell_next HNW.out hb a0
      have a1 := cell_next HNW.out hb a1
      have a2 := cell_next HNW.out hb a2
      have hhn : (h : Int) < n := by omega
      have hbh := HB.out h (by omega)
      clear hc hk
      by_cases hab : tkey (tat zs h) < tkey t
      · have HM : Hid (Mid (fun i => tkey (tat zs i)) n (tkey t) (h + 1) hi) := mid_up hm.out hrel.out hh2 hab hh1
        have hd : decide (cmpT (tat zs h) t < 0) = true := by rw [cmpT_lt hbh HT.out]; simp [hab]
        go_wp2
        go_region_held3 (fun w' => w'.cell? ⟨b, off + h * 3, none⟩ = some (.int .i64 (tat zs h).frm) ∧ w'.cell? ⟨b, off + h * 3 + 1, none⟩ = some (.int .i64 (tat zs h).to) ∧ w'.cell? ⟨b, off + h * 3 + 2, none⟩ = some (.int .i64 (tat zs h).cost) ∧ w'.cell? ⟨w.heap.size, 0, none⟩ = some (.int .i64 t.frm) ∧ w'.cell? ⟨w.heap.size, 1, none⟩ = some (.int .i64 t.to) ∧ w'.cell? ⟨w.heap.size, 2, none⟩ = some (.int .i64 t.cost)) (first | go_keep | exact ⟨cell_next hx hbr a0, cell_next hx hbr a1, cell_next hx hbr a2, cell_next hx hwr x0, cell_next hx hwr x1, cell_next hx hwr x2⟩) (first | (go_at_call 101; refine (cmpTurns_any (tat zs h) t _).mono ?_; rintro e w' ⟨rfl, hx⟩))
        all_goals go_wp2
        all_goals
          go_roundw
          case rel => exact ⟨h + 1, hi, by omega, by omega, by go_num, rfl, HM, HN.out.drew.trans hx⟩
          case measure => simp [intOf]; omega
      · have HM : Hid (Mid (fun i => tkey (tat zs i)) n (tkey t) lo h) := mid_down hm.out hrel.out hh2 hab hh1
        have hd : decide (cmpT (tat zs h) t < 0) = false := by rw [cmpT_lt hbh HT.out]; simp [hab]
        go_wp2
        go_region_held3 (fun w' => w'.cell? ⟨b, off + h * 3, none⟩ = some (.int .i64 (tat zs h).frm) ∧ w'.cell? ⟨b, off + h * 3 + 1, none⟩ = some (.int .i64 (tat zs h).to) ∧ w'.cell? ⟨b, off + h * 3 + 2, none⟩ = some (.int .i64 (tat zs h).cost) ∧ w'.cell? ⟨w.heap.size, 0, none⟩ = some (.int .i64 t.frm) ∧ w'.cell? ⟨w.heap.size, 1, none⟩ = some (.int .i64 t.to) ∧ w'.cell? ⟨w.heap.size, 2, none⟩ = some (.int .i64 t.cost)) (first | go_keep | exact ⟨cell_next hx hbr a0, cell_next hx hbr a1, cell_next hx hbr a2, cell_next hx hwr x0, cell_next hx hwr x1, cell_next hx hwr x2⟩) (first | (go_at_call 101; refine (cmpTurns_any (tat zs h) t _).mono ?_; rintro e w' ⟨rfl, hx⟩))
        all_goals go_wp2
        all_goals
          go_roundw
          case rel => exact ⟨lo, h, by omega, by omega, rfl, rfl, HM, HN.out.drew.trans hx⟩
          case measure => simp [intOf]; omega
    · have e : hi = lo := by omega
      subst e
      obtain ⟨_, _, hlow, hhigh⟩ := hrel.out
      have HNO : Hid (¬ (hi < n ∧ (tat zs hi).frm = t.frm ∧ (tat zs hi).to = t.to) → ∀ i, i < n → ¬ ((tat zs i).frm = t.frm ∧ (tat zs i).to = t.to)) := fun hno i hi' hh => by
        have hkey : tkey (tat zs i) = tkey t := by unfold tkey; rw [hh.1, hh.2]
        rcases Nat.lt_trichotomy i hi with q | q | q
        · have := hlow i q
          simp only at this
          omega
        · subst q
          exact hno ⟨hi', hh⟩
        · have h3 := hhigh hi (Nat.le_refl _) (by omega)
          have h4 := hm.out hi i q hi'
          simp only at h3
          omega
      by_cases hl : hi < n
      · obtain ⟨b, off, rfl, hB, hb, hc⟩ := hk (by omega)
        obtain ⟨a0, a1, a2⟩ := hc hi hl
        have hbr : b < wr.heap.size := Nat.lt_of_lt_of_le hb HNW.out.size
        have a0 := cell_next HNW.out hb a0
        have a1 := cell_next HNW.out hb a1
        have a2 := cell_next HNW.out hb a2
        have hln : (hi : Int) < n := by omega
        have hld : decide ((hi : Int) < n) = true := by simpa using hl
        clear hc hk hlow hhigh
        by_cases he : (tat zs hi).frm = t.frm ∧ (tat zs hi).to = t.to
        · have hd : (cmpT (tat zs hi) t == 0) = true := by rw [cmpT_zero]; simpa using he
          have HE : Hid ((tat zs hi).frm = t.frm ∧ (tat zs hi).to = t.to) := he
          clear he
          go_wp2
          go_region_held3 (fun w' => w'.cell? ⟨b, off + hi * 3, none⟩ = some (.int .i64 (tat zs hi).frm) ∧ w'.cell? ⟨b, off + hi * 3 + 1, none⟩ = some (.int .i64 (tat zs hi).to) ∧ w'.cell? ⟨b, off + hi * 3 + 2, none⟩ = some (.int .i64 (tat zs hi).cost) ∧ w'.cell? ⟨w.heap.size, 0, none⟩ = some (.int .i64 t.frm) ∧ w'.cell? ⟨w.heap.size, 1, none⟩ = some (.int .i64 t.to) ∧ w'.cell? ⟨w.heap.size, 2, none⟩ = some (.int .i64 t.cost)) (first | go_keep | exact ⟨cell_next hx hbr a0, cell_next hx hbr a1, cell_next hx hbr a2, cell_next hx hwr x0, cell_next hx hwr x1, cell_next hx hwr x2⟩) (first | (go_at_call 101; refine (cmpTurns_any (tat zs hi) t _).mono ?_; rintro e w' ⟨rfl, hx⟩))
          all_goals go_wp2
          all_goals
            go_ret2
            exact ⟨⟨hi, true, rfl, fun _ => ⟨by first | exact hl | (rw [HZ.out]; exact hl), HE.out⟩, (fun h => by cases h)⟩, HNW.out.drew.trans hx⟩
        · have hd : (cmpT (tat zs hi) t == 0) = false := by rw [cmpT_zero]; simpa using he
          have HE : Hid (∀ i, i < n → ¬ ((tat zs i).frm = t.frm ∧ (tat zs i).to = t.to)) := HNO.out (fun h => he h.2)
          clear he
          go_wp2
          go_region_held3 (fun w' => w'.cell? ⟨b, off + hi * 3, none⟩ = some (.int .i64 (tat zs hi).frm) ∧ w'.cell? ⟨b, off + hi * 3 + 1, none⟩ = some (.int .i64 (tat zs hi).to) ∧ w'.cell? ⟨b, off + hi * 3 + 2, none⟩ = some (.int .i64 (tat zs hi).cost) ∧ w'.cell? ⟨w.heap.size, 0, none⟩ = some (.int .i64 t.frm) ∧ w'.cell? ⟨w.heap.size, 1, none⟩ = some (.int .i64 t.to) ∧ w'.cell? ⟨w.heap.size, 2, none⟩ = some (.int .i64 t.cost)) (first | go_keep | exact ⟨cell_next hx hbr a0, cell_next hx hbr a1, cell_next hx hbr a2, cell_next hx hwr x0, cell_next hx hwr x1, cell_next hx hwr x2⟩) (first | (go_at_call 101; refine (cmpTurns_any (tat zs hi) t _).mono ?_; rintro e w' ⟨rfl, hx⟩))
          all_goals go_wp2
          all_goals
            go_ret2
            exact ⟨⟨hi, false, rfl, (fun h => by cases h), fun _ => by first | exact HE.out | (rw [HZ.out]; exact HE.out)⟩, HNW.out.drew.trans hx⟩
      · have HE : Hid (∀ i, i < n → ¬ ((tat zs i).frm = t.frm ∧ (tat zs i).to = t.to)) := HNO.out (fun h => hl h.1)
        have hd : decide ((hi : Int) < n) = false := by simp; omega
        clear hlow hhigh
        go_wp2
        go_quiet (fail)
        all_goals go_wp2
        all_goals
          go_ret2
          exact ⟨⟨hi, false, rfl, (fun h => by cases h), fun _ => by first | exact HE.out | (rw [HZ.out]; exact HE.out)⟩, HNW.out.trans (nx_drewN _ _)⟩
end Go.Proofs.YtcdjmpbdaiafgaaGreatDoor
