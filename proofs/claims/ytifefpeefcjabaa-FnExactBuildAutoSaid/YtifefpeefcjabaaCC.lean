import Derived.Test.YtifefpeefcjabaaCB
namespace Go.Proofs.Ytifefpeefcjabaa
open Go.RowKit Go.Sort
set_option linter.unusedVariables false
set_option maxRecDepth 100000

def most (x : Ru) : Nat := if x.only then x.seq.length - 1 else x.seq.length
/-- the words of the first i rules, and of the next as far as k -/
def PW (rs : List Ru) (i k : Nat) (y : List Int) : Prop :=
  y = [] ∨ (∃ j, j < i ∧ ∃ q, 1 ≤ q ∧ q ≤ most (rat rs j) ∧ y = (rat rs j).seq.take q) ∨ ∃ q, 1 ≤ q ∧ q < k ∧ y = (rat rs i).seq.take q
structure WI (rs : List Ru) (i k : Nat) (ws : List (List Int)) : Prop where
  asc : AscW ws
  l0 : 0 < ws.length
  l1 : ws.length ≤ 2001
  yes : ∀ y, inW ws y → PW rs i k y
  all : ws.length ≤ 2000 → ∀ y, PW rs i k y → inW ws y
theorem PW.up {rs : List Ru} {i k : Nat} {y : List Int} (h : PW rs i k y) : PW rs i (k + 1) y := by
  rcases h with h | h | ⟨q, h1, h2, h3⟩
  · exact Or.inl h
  · exact Or.inr (Or.inl h)
  · exact Or.inr (Or.inr ⟨q, h1, by omega, h3⟩)
theorem WI.start (rs : List Ru) : WI rs 0 1 [[]] := by
  refine ⟨fun i j h1 h2 => by simp at h2; omega, by simp, by simp, fun y h => ?_, fun _ y h => ?_⟩
  · obtain ⟨j, hj, e⟩ := h
    simp at hj
    subst hj
    exact Or.inl e.symm
  · rcases h with rfl | ⟨j, hj, _⟩ | ⟨q, h1, h2, _⟩
    · exact ⟨0, by simp, rfl⟩
    · omega
    · omega
theorem WI.step {rs : List Ru} {i k : Nat} {ws ws' : List (List Int)} {x : List Int} (h : WI rs i k ws) (hI : InsW ws x ws') (hx : x = (rat rs i).seq.take k) (hl : ws.length ≤ 2000) (hk : 1 ≤ k := by omega) : WI rs i (k + 1) ws' := by
  have hlen := hI.len
  refine ⟨hI.asc h.asc, by have := h.l0; omega, by omega, fun y hy => ?_, fun _ y hy => ?_⟩
  · rcases (hI.mem y).1 hy with rfl | hy
    · exact Or.inr (Or.inr ⟨k, hk, Nat.lt_succ_self _, hx⟩)
    · exact (h.yes y hy).up
  · refine (hI.mem y).2 ?_
    rcases hy with hy | hy | ⟨q, h1, h2, h3⟩
    · exact Or.inr (h.all hl y (Or.inl hy))
    · exact Or.inr (h.all hl y (Or.inr (Or.inl hy)))
    · by_cases e : q = k
      · subst e; exact Or.inl (h3.trans hx.symm)
      · exact Or.inr (h.all hl y (Or.inr (Or.inr ⟨q, h1, by omega, h3⟩)))
theorem WI.skip {rs : List Ru} {i k : Nat} {ws : List (List Int)} (h : WI rs i k ws) (hl : ¬ ws.length ≤ 2000) : WI rs i (k + 1) ws :=
  ⟨h.asc, h.l0, h.l1, fun y hy => (h.yes y hy).up, fun h' => absurd h' hl⟩
theorem WI.close {rs : List Ru} {i m : Nat} {ws : List (List Int)} (h : WI rs i (m + 1) ws) (hm : most (rat rs i) = m) : WI rs (i + 1) 1 ws := by
  refine ⟨h.asc, h.l0, h.l1, fun y hy => ?_, fun hl y hy => h.all hl y ?_⟩
  · rcases h.yes y hy with h1 | ⟨j, hj, q, h1, h2, h3⟩ | ⟨q, h1, h2, h3⟩
    · exact Or.inl h1
    · exact Or.inr (Or.inl ⟨j, by omega, q, h1, h2, h3⟩)
    · exact Or.inr (Or.inl ⟨i, by omega, q, h1, by omega, h3⟩)
  · rcases hy with h1 | ⟨j, hj, q, h1, h2, h3⟩ | ⟨q, h1, h2, h3⟩
    · exact Or.inl h1
    · by_cases e : j = i
      · subst e; exact Or.inr (Or.inr ⟨q, h1, by omega, h3⟩)
      · exact Or.inr (Or.inl ⟨j, by omega, q, h1, h2, h3⟩)
    · omega
def WdE (B : Nat) (rs : List Ru) (w w' : World) (e : Ending) : Prop := ∃ v2 ws, e = .returned v2 ∧ WR B w w' v2 ws ∧ WI rs rs.length 1 ws

set_option maxHeartbeats 4000000 in
theorem l3Words_any (B : Nat) (v : Value) (rs : List Ru) (w : World) (h0 : HRules B w v rs) (hg : ∀ i, i < rs.length → 2 ≤ (rat rs i).seq.length ∧ (rat rs i).seq.length ≤ 402) :
    Calls Try.prog 29 #[v] w fun e w' => WdE B rs w w' e ∧ Nx w w' := by
  have HGD : Hid (∀ i, i < rs.length → 2 ≤ (rat rs i).seq.length ∧ (rat rs i).seq.length ≤ 402) := hg
  clear hg
  obtain ⟨a, cap, rfl, hn, hk⟩ := h0
  unfold maxLen at hn
  generalize hz : rs.length = n at *
  have HZ : Hid (rs.length = n) := hz
  clear hz
  have HWR0 : Hid (WR B w ((w.alloc (.cells #[] 2)).alloc (.cells #[.slice (some ⟨w.heap.size, 0, none⟩) 0 0] 57)) (.slice (some ⟨w.heap.size + 1, 0, none⟩) 1 1) [[]]) := by
    refine ⟨[.slice (some ⟨w.heap.size, 0, none⟩) 0 0], ⟨rfl, .inr ⟨w.heap.size + 1, 1, #[.slice (some ⟨w.heap.size, 0, none⟩) 0 0], rfl, Nat.le_succ _, ?_, Nat.le_refl _, by simp [maxLen], by simp, by simp⟩⟩, fun i hi => ?_⟩
    · show ((w.heap.push _).push _)[w.heap.size + 1]? = _
      rw [Array.getElem?_push, if_pos (by simp)]
    · have e : i = 0 := by simpa using hi
      subst e
      exact ⟨⟨_, _, rfl, by simp [maxLen, wd], fun h => by simp [wd] at h⟩, _, _, _, rfl, Nat.le_refl _⟩
  go_enter Try.func29, Try.ntmps29
  go_wp2
  go_loopw [3, 4, 5, 6] (fun u i _ _ wr => ∃ (k : Nat) (ws : List (List Int)), k ≤ n ∧ i = .int .i64 k ∧ Hid (WR B w wr u ws) ∧ Hid (Nx w wr) ∧ Hid (WI rs k 1 ws)) (fun _ i _ _ _ => n - (intOf i).toNat)
  case atStart => exact ⟨0, _, Nat.zero_le _, rfl, HWR0, box2 _ _ _, WI.start rs⟩
  clear HWR0
  obtain ⟨k, ws0, hkn, rfl, HWR, HN, HWI⟩ := hrel
  by_cases hlt : k < n
  case neg =>
    have ek : n = k := by omega
    have HF : Hid (WI rs rs.length 1 ws0) := by unfold Hid; rw [HZ.out, ek]; exact HWI.out
    clear ek
    obtain ⟨va, vc, hvs⟩ := HWR.out.slice
    subst hvs
    go_wp2
    go_ret
    exact ⟨⟨_, ws0, rfl, HWR.out, HF.out⟩, HN.out⟩
  obtain ⟨b, off, rfl, _, hb, hc⟩ := hk (by omega)
  obtain ⟨sa, sc, c0', c1', c2', hS, hcap⟩ := hc k hlt
  have C0 : Hid (w.cell? ⟨b, off + k * 3 + 2, none⟩ = some (.slice sa (rat rs k).seq.length sc)) := c2'
  have c1 := cellq' HN.out c1'
  have c2 := cellq' HN.out c2'
  have hlt' : (k : Int) < n := by omega
  have h2 := HGD.out k hlt
  have HS : Hid (HInts B w (.slice sa (rat rs k).seq.length sc) (rat rs k).seq) := hS
  have HMO0 : Hid (most (rat rs k) = if (rat rs k).only = true then (rat rs k).seq.length - 1 else (rat rs k).seq.length) := rfl
  clear hc hk c0' c1' c2' hS HGD
  generalize hx : rat rs k = x at *
  have HX : Hid (rat rs k = x) := hx
  clear hx
  generalize hq : x.seq.length = m at *
  clear hq
  obtain ⟨p, rfl⟩ : ∃ p, m = p + 1 := ⟨m - 1, by omega⟩
  have w1 : IntKind.i64.wrap ((p : Int) + 1 - 1) = (p : Int) := by rw [IntKind.wrap_i64]; omega
  have w2 : ((p : Int) + 1 - 1) = (p : Int) := by omega
  have wp := wrapJ p (by omega)
  cases g1 : x.only
  case true =>
    have HMO : Hid (most x = p) := by unfold Hid; rw [HMO0.out, g1, if_pos rfl]; rfl
    rw [g1] at c1
    clear g1 HMO0
    go_wp2
    go_loopw [3, 6] (fun u j wz => ∃ (q : Nat) (ws : List (List Int)), 1 ≤ q ∧ q ≤ p + 1 ∧ j = .int .i64 q ∧ Hid (WR B w wz u ws) ∧ Hid (Nx w wz) ∧ Hid (WI rs k q ws)) (fun _ j _ => p + 1 - (intOf j).toNat)
    case atStart => exact ⟨1, _, Nat.le_refl _, by omega, rfl, HWR, HN, HWI⟩
    clear HWR HWI HN
    obtain ⟨q, ws, hq1, hqm, rfl, HWR, HN, HWI⟩ := hrel
    obtain ⟨va, vc, hvs⟩ := HWR.out.slice
    subst hvs
    have c0 := cellq' HN.out C0.out
    by_cases hql : q ≤ p
    · have hql' : (q : Int) ≤ p := by omega
      have hqc : (q : Int) ≤ sc := by omega
      have hql2 := HWI.out.l1
      by_cases hle : ws.length ≤ 2000
      · have hle' : decide ((ws.length : Int) ≤ 2000) = true := by simp; omega
        have HXQ : Hid (HInts B w (.slice sa q sc) (x.seq.take q)) := HS.out.take (by omega) _
        go_wp2_with fail
        refine (l3Insert_any B w _ _ _ _ _ ws (x.seq.take q) (by exact HWR.out) HN.out (by exact HXQ.out) (by omega) HWI.out.asc (by omega) HWI.out.l0).mono ?_
        rintro e w1 ⟨⟨v2, ws', rfl, hW', hI⟩, hx⟩
        have HW1 : Hid (WR B w w1 v2 ws') := hW'
        have HN1 : Hid (Nx w w1) := hx
        have HI1 : Hid (WI rs k (q + 1) ws') := HWI.out.step hI (by rw [HX.out]) hle
        clear hW' hI hx
        go_wp2
        go_roundw
        case rel => exact ⟨q + 1, _, by omega, by omega, by go_num, HW1, HN1, HI1⟩
        case measure => simp [intOf]; omega
      · have hle' : decide ((ws.length : Int) ≤ 2000) = false := by simp; omega
        have HI1 : Hid (WI rs k (q + 1) ws) := HWI.out.skip hle
        go_wp2
        go_roundw
        case rel => exact ⟨q + 1, _, by omega, by omega, by go_num, HWR, HN, HI1⟩
        case measure => simp [intOf]; omega
    · have eq : q = p + 1 := by omega
      have HI1 : Hid (WI rs (k + 1) 1 ws) := (eq ▸ HWI.out).close (by rw [HX.out]; exact HMO.out)
      have hql' : ¬ (q : Int) ≤ p := by omega
      clear eq
      go_wp2
      go_roundw
      case rel => exact ⟨k + 1, _, by omega, by go_num, HWR, HN, HI1⟩
      case measure => simp [intOf]; omega
  case false =>
    have HMO : Hid (most x = p + 1) := by unfold Hid; rw [HMO0.out, g1]; rfl
    rw [g1] at c1
    clear g1 HMO0
    generalize hmm : p + 1 = m at *
    have hmi : (p : Int) + 1 = m := by omega
    rw [hmi] at *
    clear hmm hmi w1 w2 wp
    go_wp2
    go_loopw [3, 6] (fun u j wz => ∃ (q : Nat) (ws : List (List Int)), 1 ≤ q ∧ q ≤ m + 1 ∧ j = .int .i64 q ∧ Hid (WR B w wz u ws) ∧ Hid (Nx w wz) ∧ Hid (WI rs k q ws)) (fun _ j _ => m + 1 - (intOf j).toNat)
    case atStart => exact ⟨1, _, Nat.le_refl _, by omega, rfl, HWR, HN, HWI⟩
    clear HWR HWI HN
    obtain ⟨q, ws, hq1, hqm, rfl, HWR, HN, HWI⟩ := hrel
    obtain ⟨va, vc, hvs⟩ := HWR.out.slice
    subst hvs
    have c0 := cellq' HN.out C0.out
    by_cases hql : q ≤ m
    · have hql' : (q : Int) ≤ m := by omega
      have hqc : (q : Int) ≤ sc := by omega
      have hql2 := HWI.out.l1
      by_cases hle : ws.length ≤ 2000
      · have hle' : decide ((ws.length : Int) ≤ 2000) = true := by simp; omega
        have HXQ : Hid (HInts B w (.slice sa q sc) (x.seq.take q)) := HS.out.take (by omega) _
        go_wp2_with fail
        refine (l3Insert_any B w _ _ _ _ _ ws (x.seq.take q) (by exact HWR.out) HN.out (by exact HXQ.out) (by omega) HWI.out.asc (by omega) HWI.out.l0).mono ?_
        rintro e w1 ⟨⟨v2, ws', rfl, hW', hI⟩, hx⟩
        have HW1 : Hid (WR B w w1 v2 ws') := hW'
        have HN1 : Hid (Nx w w1) := hx
        have HI1 : Hid (WI rs k (q + 1) ws') := HWI.out.step hI (by rw [HX.out]) hle
        clear hW' hI hx
        go_wp2
        go_roundw
        case rel => exact ⟨q + 1, _, by omega, by omega, by go_num, HW1, HN1, HI1⟩
        case measure => simp [intOf]; omega
      · have hle' : decide ((ws.length : Int) ≤ 2000) = false := by simp; omega
        have HI1 : Hid (WI rs k (q + 1) ws) := HWI.out.skip hle
        go_wp2
        go_roundw
        case rel => exact ⟨q + 1, _, by omega, by omega, by go_num, HWR, HN, HI1⟩
        case measure => simp [intOf]; omega
    · have eq : q = m + 1 := by omega
      have HI1 : Hid (WI rs (k + 1) 1 ws) := (eq ▸ HWI.out).close (by rw [HX.out]; exact HMO.out)
      have hql' : ¬ (q : Int) ≤ m := by omega
      clear eq
      go_wp2
      go_roundw
      case rel => exact ⟨k + 1, _, by omega, by go_num, HWR, HN, HI1⟩
      case measure => simp [intOf]; omega
end Go.Proofs.Ytifefpeefcjabaa
