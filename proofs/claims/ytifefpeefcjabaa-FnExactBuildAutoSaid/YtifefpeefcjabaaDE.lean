import Derived.Test.YtifefpeefcjabaaDD
namespace Go.Proofs.Ytifefpeefcjabaa
open Go.RowKit Go.Maps
set_option linter.unusedVariables false
set_option maxRecDepth 100000

/-- an ascending list inside another: no word comes earlier there -/
theorem sub_at {us ws : List (List Int)} (hu : AscW us) (hw : AscW ws) (h : ∀ y, inW us y → inW ws y) (i : Nat) (hi : i < us.length) : ∃ k, i ≤ k ∧ k < ws.length ∧ wd ws k = wd us i := by
  induction i with
  | zero =>
    obtain ⟨k, hk, e⟩ := h (wd us 0) ⟨0, hi, rfl⟩
    exact ⟨k, Nat.zero_le _, hk, e⟩
  | succ i ih =>
    obtain ⟨k, h1, h2, h3⟩ := ih (by omega)
    obtain ⟨k', hk', e⟩ := h (wd us (i + 1)) ⟨i + 1, hi, rfl⟩
    refine ⟨k', ?_, hk', e⟩
    have hb := hu i (i + 1) (by omega) hi
    rw [← h3, ← e] at hb
    rcases Nat.lt_trichotomy k k' with c | c | c
    · omega
    · subst c; rw [bef_self] at hb; cases hb
    · have := bef_trans hb (hw k' k c h2)
      rw [bef_self] at this; cases this
theorem sub_len {us ws : List (List Int)} (hu : AscW us) (hw : AscW ws) (h : ∀ y, inW us y → inW ws y) : us.length ≤ ws.length := by
  by_cases c : us.length = 0
  · omega
  · obtain ⟨k, h1, h2, _⟩ := sub_at hu hw h (us.length - 1) (by omega)
    omega
theorem same_words {us ws : List (List Int)} (hu : AscW us) (hw : AscW ws) (h : ∀ y, inW us y ↔ inW ws y) : us = ws := by
  have hl : us.length = ws.length := Nat.le_antisymm (sub_len hu hw fun y => (h y).1) (sub_len hw hu fun y => (h y).2)
  apply List.ext_getElem hl
  intro i h1 h2
  have key : wd us i = wd ws i := by
    obtain ⟨k, k1, k2, k3⟩ := sub_at hu hw (fun y => (h y).1) i h1
    obtain ⟨m, m1, m2, m3⟩ := sub_at hw hu (fun y => (h y).2) i h2
    by_cases c : k = i
    · rw [← k3, c]
    · have hb := hw i k (by omega) k2
      rw [k3, ← m3] at hb
      by_cases d : m = i
      · rw [d, bef_self] at hb; cases hb
      · have := bef_trans hb (hu i m (by omega) m2)
        rw [bef_self] at this; cases this
  unfold wd at key
  rw [List.getD_eq_getElem?_getD, List.getElem?_eq_getElem h1, List.getD_eq_getElem?_getD, List.getElem?_eq_getElem h2] at key
  exact key
def muK (rs : List Ru) : Nat → List Int → Int
  | 0 => fun _ => -1
  | k + 1 => muP (rat rs k) (muK rs k)
def bdK (rs : List Ru) : Nat → List Int → Bool
  | 0 => fun _ => false
  | k + 1 => bdP (rat rs k) (bdK rs k)
theorem pw_up {rs : List Ru} {k : Nat} (y : List Int) : PW rs (k + 1) 1 y ↔ PW rs k 1 y ∨ ∃ t, 1 ≤ t ∧ t ≤ most (rat rs k) ∧ y = (rat rs k).seq.take t := by
  constructor
  · rintro (h | ⟨j, hj, q, h1, h2, h3⟩ | ⟨q, h1, h2, h3⟩)
    · exact Or.inl (Or.inl h)
    · by_cases e : j = k
      · subst e; exact Or.inr ⟨q, h1, h2, h3⟩
      · exact Or.inl (Or.inr (Or.inl ⟨j, by omega, q, h1, h2, h3⟩))
    · omega
  · rintro ((h | ⟨j, hj, q, h1, h2, h3⟩ | ⟨q, h1, h2, h3⟩) | ⟨t, h1, h2, h3⟩)
    · exact Or.inl h
    · exact Or.inr (Or.inl ⟨j, by omega, q, h1, h2, h3⟩)
    · omega
    · exact Or.inr (Or.inl ⟨k, by omega, t, h1, h2, h3⟩)
theorem pw_mono {rs : List Ru} {k n : Nat} (h : k ≤ n) {y : List Int} (hy : PW rs k 1 y) : PW rs n 1 y := by
  rcases hy with h1 | ⟨j, hj, q, h1, h2, h3⟩ | ⟨q, h1, h2, h3⟩
  · exact Or.inl h1
  · exact Or.inr (Or.inl ⟨j, by omega, q, h1, h2, h3⟩)
  · omega
theorem most_pos {x : Ru} (h : 2 ≤ x.seq.length) : 1 ≤ most x := by unfold most; split <;> omega
theorem muK_out {rs : List Ru} (hg : rgB rs = true) {k : Nat} (hk : k ≤ rs.length) : ∀ y, ¬ PW rs k 1 y → muK rs k y = -1 := by
  induction k with
  | zero => exact fun _ _ => rfl
  | succ k ih =>
    intro y hy
    rw [pw_up] at hy
    have h1 := ih (by omega) y (fun h => hy (Or.inl h))
    show muP (rat rs k) (muK rs k) y = -1
    unfold muP
    split
    · rw [upW_ne _ _ (fun e => hy (Or.inr ⟨_, most_pos (rg_at hg (show k < rs.length by omega)).1, Nat.le_refl _, e⟩))]
      exact h1
    · exact h1
theorem bdK_out {rs : List Ru} (hg : rgB rs = true) {k : Nat} (hk : k ≤ rs.length) : ∀ y, ¬ PW rs k 1 y → bdK rs k y = false := by
  induction k with
  | zero => exact fun _ _ => rfl
  | succ k ih =>
    intro y hy
    rw [pw_up] at hy
    have h1 := ih (by omega) y (fun h => hy (Or.inl h))
    show bdP (rat rs k) (bdK rs k) y = false
    unfold bdP
    split
    · exact h1
    · rw [upW_ne _ _ (fun e => hy (Or.inr ⟨_, most_pos (rg_at hg (show k < rs.length by omega)).1, Nat.le_refl _, e⟩))]
      exact h1
/-- the trie of the first k rules -/
structure GI (rs : List Ru) (k : Nat) (w0 w : World) (ws : List (List Int)) (bl : List Int → Nat) (mv : List Int → Value) : Prop where
  pt : PT ws (muK rs k) (bdK rs k) w0.heap.size w bl mv
  ok : WS ws
  mem : ∀ y, inW ws y ↔ PW rs k 1 y
  root : bl [] = w0.heap.size
  nx : Nx w0 w
theorem GI.start {rs : List Ru} {w0 w : World} (hb : Blk w w0.heap.size (node 0 0 (-1) (-1) false (.pointer none) (.pointer none) (.map none))) (k : Nx w0 w) : GI rs 0 w0 w [[]] (fun _ => w0.heap.size) (fun _ => .map none) := by
  have hin : ∀ y, inW [[]] y ↔ y = [] := by
    intro y
    rw [← mem_in]
    simp
  refine ⟨⟨fun x hx => ?_, fun x hx => Or.inl ⟨rfl, ?_⟩, fun x y hx hy _ => ?_, fun x hx => Nat.le_refl _, fun x mb hx e => by simp [mapBlk] at e, fun x y mb hx hy e => by simp [mapBlk] at e⟩, ⟨fun i j h1 h2 => by simp at h2; omega, (hin []).2 rfl, fun x e h => ?_, fun x e h => ?_⟩, fun y => ?_, rfl, k⟩
  · rw [(hin x).1 hx]
    exact hb
  · simp [kidsW, isKid]
  · rw [(hin x).1 hx, (hin y).1 hy]
  · have := (hin _).1 h
    simp at this
  · have := (hin _).1 h
    simp at this
  · rw [hin]
    constructor
    · exact Or.inl
    · rintro (h | ⟨j, hj, _⟩ | ⟨q, h1, h2, _⟩)
      · exact h
      · omega
      · omega
theorem GI.next {rs : List Ru} {k : Nat} {w0 w w' : World} {ws : List (List Int)} {bl : List Int → Nat} {mv : List Int → Value} (h : GI rs k w0 w ws bl mv) (q : Nx w w') : GI rs k w0 w' ws bl mv := ⟨h.pt.next q, h.ok, h.mem, h.root, h.nx.trans q⟩
def GTE (rs : List Ru) (w0 w' : World) (r : Ending) : Prop :=
  (r = .returned (.tuple #[.pointer none, .bool false]) ∧ ∃ ws : List (List Int), 2000 < ws.length ∧ AscW ws ∧ ∀ y, inW ws y → PW rs rs.length 1 y) ∨
  ∃ ws bl mv, r = .returned (.tuple #[ptr w0.heap.size, .bool true]) ∧ ws.length ≤ 2000 ∧ GI rs rs.length w0 w' ws bl mv

set_option maxHeartbeats 4000000 in
theorem growTrie_any (B : Nat) (v : Value) (rs : List Ru) (w : World) (h0 : HRules B w v rs) (hg : rgB rs = true) :
    Calls Try.prog 55 #[v] w fun r w' => GTE rs w w' r ∧ Nx w w' := by
  have HG : Hid (rgB rs = true) := hg
  obtain ⟨a, cap, rfl, hn, hk⟩ := h0
  unfold maxLen at hn
  generalize hz : rs.length = n at *
  have HZ : Hid (rs.length = n) := hz
  clear hz hg
  go_enter Try.func55, Try.ntmps55
  go_wp2_with fail
  refine (newRoot_any w).mono ?_
  rintro r w1 ⟨rfl, hb, hx⟩
  have HI0 : Hid (GI rs 0 w w1 [[]] (fun _ => w.heap.size) (fun _ => .map none)) := GI.start hb hx
  clear hb hx
  unfold ptr
  go_wp2
  go_loopw [5, 7, 11] (fun e5 _ i wr => ∃ (k : Nat) (ws : List (List Int)) (bl : List Int → Nat) (mv : List Int → Value), k ≤ n ∧ i = .int .i64 k ∧ e5 = .int .i64 ((ws.length : Nat) : Int) ∧ ws.length ≤ 2000 ∧ Hid (GI rs k w wr ws bl mv)) (fun _ _ i _ => n - (intOf i).toNat)
  case atStart => exact ⟨0, _, _, _, Nat.zero_le _, rfl, rfl, by simp, HI0⟩
  clear HI0
  obtain ⟨k, ws, bl, mv, hkn, rfl, rfl, hwl, HI⟩ := hrel
  by_cases hlt : k < n
  case neg =>
    have ek : n = k := by omega
    have HF : Hid (GI rs rs.length w wr ws bl mv) := by unfold Hid; rw [HZ.out, ek]; exact HI.out
    have hnl : ¬ (k : Int) < n := by omega
    have HWL : Hid (ws.length ≤ 2000) := hwl
    clear ek hwl
    go_wp2
    refine bodyPost_ret (v := .tuple #[.pointer (some ⟨w.heap.size, 0, none⟩), .bool true]) (by simp [results, Try.results55, go_sem]) rfl ?_
    exact ⟨Or.inr ⟨ws, bl, mv, rfl, HWL.out, HF.out⟩, HI.out.nx⟩
  obtain ⟨b, off, rfl, _, hb, hc⟩ := hk (by omega)
  obtain ⟨sa, sc, c0', c1', c2', hS, hcap⟩ := hc k hlt
  have c0 := cellq' HI.out.nx c0'
  have c1 := cellq' HI.out.nx c1'
  have c2 := cellq' HI.out.nx c2'
  have hlt' : (k : Int) < n := by omega
  have hr := rg_at HG.out (show k < rs.length by rw [HZ.out]; exact hlt)
  have HR3 : Hid (∀ j, j < (rat rs k).seq.length → 0 ≤ iat (rat rs k).seq j ∧ iat (rat rs k).seq j < 4000) := hr.2.2
  have h2 := hr.1
  have h4 := hr.2.1
  have HS : Hid (HInts B w (.slice sa (rat rs k).seq.length sc) (rat rs k).seq) := hS
  have HCP : Hid ((rat rs k).seq.length ≤ sc) := hcap
  have HMU : Hid (∀ y, ¬ inW ws y → muK rs k y = -1) := fun y hy => muK_out HG.out (by rw [HZ.out]; exact hkn) y (fun h => hy ((HI.out.mem y).2 h))
  have HBD : Hid (∀ y, ¬ inW ws y → bdK rs k y = false) := fun y hy => bdK_out HG.out (by rw [HZ.out]; exact hkn) y (fun h => hy ((HI.out.mem y).2 h))
  have HWL : Hid (ws.length ≤ 2000) := hwl
  have HRT : Hid (bl [] = w.heap.size) := HI.out.root
  have HSTEP : Hid (∀ w5 ws' bl' mv', PT ws' (muP (rat rs k) (muK rs k)) (bdP (rat rs k) (bdK rs k)) w.heap.size w5 bl' mv' → WS ws' → (∀ y, inW ws' y ↔ inW ws y ∨ ∃ t, 1 ≤ t ∧ t ≤ most (rat rs k) ∧ y = (rat rs k).seq.take t) → bl' [] = bl [] → Nx w w5 → GI rs (k + 1) w w5 ws' bl' mv') := fun w5 ws' bl' mv' h1 h2 h3 h4 h5 => ⟨h1, h2, fun y => by rw [h3, pw_up, HI.out.mem], h4.trans HRT.out, h5⟩
  have HNO : Hid (∀ w5 ws' bl' mv', GI rs (k + 1) w w5 ws' bl' mv' → 2000 < ws'.length → ∃ ws : List (List Int), 2000 < ws.length ∧ AscW ws ∧ ∀ y, inW ws y → PW rs rs.length 1 y) := fun w5 ws' bl' mv' h1 h2 => ⟨ws', h2, h1.ok.asc, fun y hy => pw_mono (by rw [HZ.out]; omega) ((h1.mem y).1 hy)⟩
  clear hc hk c0' c1' c2' hS hr hcap hwl
  have HB1 : Hid (Nx wr (wr.alloc (.cells #[.int .i64 (rat rs k).rel, .bool (rat rs k).only, .slice sa (rat rs k).seq.length sc] 62))) := box1 _ _
  have HI1 : Hid (PT ws (muK rs k) (bdK rs k) w.heap.size (wr.alloc (.cells #[.int .i64 (rat rs k).rel, .bool (rat rs k).only, .slice sa (rat rs k).seq.length sc] 62)) bl mv) := HI.out.pt.next HB1.out
  have HIN : Hid (Nx w (wr.alloc (.cells #[.int .i64 (rat rs k).rel, .bool (rat rs k).only, .slice sa (rat rs k).seq.length sc] 62))) := HI.out.nx.trans HB1.out
  have HOK : Hid (WS ws) := HI.out.ok
  clear HI HB1
  obtain ⟨p, hp⟩ : ∃ p, (rat rs k).seq.length = p + 1 := ⟨(rat rs k).seq.length - 1, by omega⟩
  have HP : Hid ((rat rs k).seq.length = p + 1) := hp
  rw [hp] at HS HCP c2 HI1 HIN h2 h4
  clear hp
  have HPL : Hid (∀ bb, (rat rs k).only = bb → Calls Try.prog 69 #[ptr (bl []), .agg #[.int .i64 (rat rs k).rel, .bool bb, .slice sa (p + 1) sc]] (wr.alloc (.cells #[.int .i64 (rat rs k).rel, .bool (rat rs k).only, .slice sa (p + 1) sc] 62)) fun r w' => PlE (rat rs k) ws (muK rs k) (bdK rs k) bl w w' r) := by
    intro bb hbb
    cases bb with
    | false => exact plant_no B (rat rs k) sa p sc ws _ _ bl mv w _ HI1.out HOK.out HIN.out HP.out HS.out (by omega) (by omega) HCP.out HR3.out HWL.out HMU.out HBD.out hbb
    | true => exact plant_only B (rat rs k) sa p sc ws _ _ bl mv w _ HI1.out HOK.out HIN.out HP.out HS.out (by omega) (by omega) HCP.out HR3.out HWL.out HMU.out HBD.out hbb
  have HPL2 := HPL.out _ rfl
  rw [HRT.out] at HPL2
  have HPL3 : Hid (Calls Try.prog 69 #[ptr w.heap.size, .agg #[.int .i64 (rat rs k).rel, .bool (rat rs k).only, .slice sa (p + 1) sc]] (wr.alloc (.cells #[.int .i64 (rat rs k).rel, .bool (rat rs k).only, .slice sa (p + 1) sc] 62)) fun r w' => PlE (rat rs k) ws (muK rs k) (bdK rs k) bl w w' r) := HPL2
  clear HPL HPL2 HI1 HIN HS HCP HR3 HMU HBD HOK h2 h4
  go_wp2_with fail
  refine HPL3.out.mono ?_
  rintro r w5 ⟨ws', bl', mv', d, rfl, q1, q2, q3, q4, q5, q6, q7⟩
  have HGI : Hid (GI rs (k + 1) w w5 ws' bl' mv') := HSTEP.out w5 ws' bl' mv' q1 q2 q3 q6 q7
  have hln : ((ws.length : Nat) : Int) + d = ((ws'.length : Nat) : Int) := by omega
  have hwr := wrapJ ws'.length (by have := HWL.out; omega)
  clear q1 q2 q3 q6 q7 HSTEP HPL3 c0 c1 c2
  by_cases hbig : ws'.length ≤ 2000
  · have d1 : decide (2000 < ((ws'.length : Nat) : Int)) = false := by simp; omega
    clear q4
    go_wp2
    go_roundw
    case rel => exact ⟨k + 1, ws', bl', mv', by omega, by go_num, rfl, hbig, HGI⟩
    case measure => simp [intOf]; omega
  · have d1 : decide (2000 < ((ws'.length : Nat) : Int)) = true := by simp; omega
    have HF : Hid (∃ ws : List (List Int), 2000 < ws.length ∧ AscW ws ∧ ∀ y, inW ws y → PW rs rs.length 1 y) := HNO.out w5 ws' bl' mv' HGI.out (by omega)
    clear q4
    go_wp2
    refine bodyPost_ret (v := .tuple #[.pointer none, .bool false]) (by simp [results, Try.results55, go_sem]) rfl ?_
    exact ⟨Or.inl ⟨rfl, HF.out⟩, HGI.out.nx⟩
end Go.Proofs.Ytifefpeefcjabaa
