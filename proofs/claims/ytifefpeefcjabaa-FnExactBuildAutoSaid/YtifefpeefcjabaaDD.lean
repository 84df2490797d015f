import Derived.Test.YtifefpeefcjabaaDC
import Derived.Test.YtifefpeefcjabaaBK
namespace Go.Proofs.Ytifefpeefcjabaa
open Go.RowKit Go.Maps
set_option linter.unusedVariables false
set_option maxRecDepth 100000

theorem place_ex {ws : List (List Int)} (ha : AscW ws) (y : List Int) : ∃ i, i ≤ ws.length ∧ PlaceW ws y i i := by
  have key : ∀ n, n ≤ ws.length → ∃ i, i ≤ n ∧ (∀ j, j < i → befB (wd ws j) y = true) ∧ (i < n → befB (wd ws i) y = false) := by
    intro n
    induction n with
    | zero => exact fun _ => ⟨0, Nat.le_refl _, fun j hj => by omega, fun h => by omega⟩
    | succ n ih =>
      intro hn
      obtain ⟨i, h1, h2, h3⟩ := ih (by omega)
      by_cases c : i < n
      · exact ⟨i, by omega, h2, fun _ => h3 c⟩
      · have e : i = n := by omega
        subst e
        cases hb : befB (wd ws i) y with
        | true => exact ⟨i + 1, Nat.le_refl _, fun j hj => by
            by_cases e : j = i
            · subst e; exact hb
            · exact h2 j (by omega), fun h => by omega⟩
        | false => exact ⟨i, by omega, h2, fun _ => hb⟩
  obtain ⟨i, h1, h2, h3⟩ := key ws.length (Nat.le_refl _)
  refine ⟨i, h1, h2, fun j hj hl => ?_⟩
  by_cases e : j = i
  · subst e; exact h3 hl
  · cases hb : befB (wd ws j) y with
    | false => rfl
    | true =>
      have := bef_trans (ha i j (by omega) hl) hb
      rw [h3 (by omega)] at this
      cases this
theorem kidW_yes {ws : List (List Int)} {bl : List Int → Nat} {x : List Int} {e : Int} {c : Nat} (h : kidOf (kidsW ws bl x) e = some c) : inW ws (x ++ [e]) ∧ c = bl (x ++ [e]) := by
  unfold kidOf at h
  rw [Option.map_eq_some_iff] at h
  obtain ⟨p, hp, rfl⟩ := h
  have h1 := List.find?_some hp
  have h2 := List.mem_of_find?_eq_some hp
  unfold kidsW at h2
  obtain ⟨y, hy, rfl⟩ := List.mem_map.1 h2
  rw [List.mem_filter] at hy
  simp [isKid] at h1 hy
  have e1 : y = x ++ [e] := by rw [snoc_of hy.2.1, hy.2.2, h1]
  subst e1
  exact ⟨mem_in.1 hy.1, rfl⟩
theorem kidW_no {ws : List (List Int)} {bl : List Int → Nat} {x : List Int} {e : Int} (h : kidOf (kidsW ws bl x) e = none) : ¬ inW ws (x ++ [e]) := by
  intro hi
  unfold kidOf at h
  rw [Option.map_eq_none_iff, List.find?_eq_none] at h
  have := h (e, bl (x ++ [e])) (by
    unfold kidsW
    refine List.mem_map.2 ⟨x ++ [e], ?_, by rw [lastE_snoc]⟩
    rw [List.mem_filter, isKid_snoc]
    exact ⟨mem_in.2 hi, by simp⟩)
  simp at this
def muP (x : Ru) (mu : List Int → Int) : List Int → Int := if x.only = true then upW mu (x.seq.take (most x)) (jm (mu (x.seq.take (most x))) (iat x.seq (x.seq.length - 1))) else mu
def bdP (x : Ru) (bd : List Int → Bool) : List Int → Bool := if x.only = true then bd else upW bd (x.seq.take (most x)) true
/-- a rule's words, as far as q, are planted -/
structure PQ (x : Ru) (q : Nat) (ws : List (List Int)) (mu : List Int → Int) (bd : List Int → Bool) (bl : List Int → Nat) (w0 w : World) (ws' : List (List Int)) (bl' : List Int → Nat) (mv' : List Int → Value) (d gb : Nat) (cs : Array Value) : Prop where
  pt : PT ws' mu bd w0.heap.size w bl' mv'
  ok : WS ws'
  mem : ∀ y, inW ws' y ↔ inW ws y ∨ ∃ t, 1 ≤ t ∧ t ≤ q ∧ y = x.seq.take t
  len : ws'.length = ws.length + d
  dq : d ≤ q
  root : bl' [] = bl []
  nx : Nx w0 w
  box : Blk w gb cs
theorem PQ.at {x : Ru} {q : Nat} {ws : List (List Int)} {mu : List Int → Int} {bd : List Int → Bool} {bl : List Int → Nat} {w0 w : World} {ws' : List (List Int)} {bl' : List Int → Nat} {mv' : List Int → Value} {d gb : Nat} {cs : Array Value} (h : PQ x q ws mu bd bl w0 w ws' bl' mv' d gb cs) : inW ws' (x.seq.take q) := by
  by_cases c : q = 0
  · subst c; exact h.ok.nil
  · exact (h.mem _).2 (Or.inr ⟨q, by omega, Nat.le_refl _, rfl⟩)
theorem take_up {s : List Int} {q : Nat} (h : q < s.length) : s.take q ++ [iat s q] = s.take (q + 1) := by
  rw [List.take_succ_eq_append_getElem h, iat_eq h]
theorem PQ.old {x : Ru} {q : Nat} {ws : List (List Int)} {mu : List Int → Int} {bd : List Int → Bool} {bl : List Int → Nat} {w0 w : World} {ws' : List (List Int)} {bl' : List Int → Nat} {mv' : List Int → Value} {d gb : Nat} {cs : Array Value} (h : PQ x q ws mu bd bl w0 w ws' bl' mv' d gb cs) (hi : inW ws' (x.seq.take (q + 1))) : PQ x (q + 1) ws mu bd bl w0 w ws' bl' mv' d gb cs := by
  refine ⟨h.pt, h.ok, fun y => ?_, h.len, by have := h.dq; omega, h.root, h.nx, h.box⟩
  constructor
  · intro hy
    rcases (h.mem y).1 hy with h1 | ⟨t, h1, h2, h3⟩
    · exact Or.inl h1
    · exact Or.inr ⟨t, h1, by omega, h3⟩
  · rintro (h1 | ⟨t, h1, h2, h3⟩)
    · exact (h.mem y).2 (Or.inl h1)
    · by_cases e : t = q + 1
      · subst e; rw [h3]; exact hi
      · exact (h.mem y).2 (Or.inr ⟨t, h1, by omega, h3⟩)
theorem blk_ne {w : World} {b b' : Nat} {cs cs' : Array Value} (h : Blk w b cs) (h' : Blk w b' cs') (hs : cs.size ≠ cs'.size) : b ≠ b' := by
  intro e
  subst e
  obtain ⟨t, h1⟩ := h
  obtain ⟨t', h2⟩ := h'
  rw [h1] at h2
  simp at h2
  exact hs (by rw [h2.1])
theorem PQ.grown {x : Ru} {q : Nat} {ws : List (List Int)} {mu : List Int → Int} {bd : List Int → Bool} {bl : List Int → Nat} {w0 w w' : World} {ws' : List (List Int)} {bl' : List Int → Nat} {mv' : List Int → Value} {d gb i : Nat} {cs : Array Value} (h : PQ x q ws mu bd bl w0 w ws' bl' mv' d gb cs) (hq : q < x.seq.length) (he : 0 ≤ iat x.seq q ∧ iat x.seq q < 4000) (hn : ¬ inW ws' (x.seq.take (q + 1))) (hi : i ≤ ws'.length) (hp : PlaceW ws' (x.seq.take q ++ [iat x.seq q]) i i) (hmu : ∀ y, ¬ inW ws y → mu y = -1) (hbd : ∀ y, ¬ inW ws y → bd y = false) (hcs : cs.size ≠ 8) {m' : Value}
    (b1 : Blk w' w.heap.size (node 0 ((x.seq.take q).length + 1) (iat x.seq q) (-1) false (ptr (bl' (x.seq.take q))) (.pointer none) (.map none)))
    (b2 : Blk w' (bl' (x.seq.take q)) (node 0 (x.seq.take q).length (lastE (x.seq.take q)) (mu (x.seq.take q)) (bd (x.seq.take q)) (if x.seq.take q = [] then .pointer none else ptr (bl' (x.seq.take q).dropLast)) (.pointer none) m'))
    (b3 : MK w' m' (kidsW (ws'.take i) bl' (x.seq.take q) ++ (iat x.seq q, w.heap.size) :: kidsW (ws'.drop i) bl' (x.seq.take q))) (b4 : mapBlk m' = mapBlk (mv' (x.seq.take q)) ∨ mapBlk m' = some (w.heap.size + 1)) (b5 : But (some (bl' (x.seq.take q))) (mapBlk (mv' (x.seq.take q))) w w') :
    ∃ ws2 bl2 mv2, PQ x (q + 1) ws mu bd bl w0 w' ws2 bl2 mv2 (d + 1) gb cs ∧ bl2 (x.seq.take (q + 1)) = w.heap.size := by
  have hup := take_up hq
  have hn' : ¬ inW ws' (x.seq.take q ++ [iat x.seq q]) := by rw [hup]; exact hn
  have hnw : ¬ inW ws (x.seq.take q ++ [iat x.seq q]) := fun h1 => hn' ((h.mem _).2 (Or.inl h1))
  have hI : InsW ws' (x.seq.take q ++ [iat x.seq q]) (insAt ws' i (x.seq.take q ++ [iat x.seq q])) := Or.inr ⟨hn', i, hi, hp, rfl⟩
  have hG := h.pt.grow h.at hn' h.ok.down hi hp (hmu _ hnw) (hbd _ hnw) h.nx.size b1 b2 b3 b4 b5
  have hin : ∀ y, inW (insAt ws' i (x.seq.take q ++ [iat x.seq q])) y ↔ y = x.seq.take (q + 1) ∨ inW ws' y := fun y => by rw [hI.mem y, hup]
  refine ⟨_, _, _, ⟨hG, ⟨hI.asc h.ok.asc, (hin _).2 (Or.inr h.ok.nil), fun y e hy => ?_, fun y e hy => ?_⟩, fun y => ?_, ?_, by have := h.dq; omega, ?_, ?_, ?_⟩, ?_⟩
  · rcases (hin _).1 hy with h1 | h1
    · rw [← hup] at h1
      have := List.append_inj_left' h1 rfl
      rw [this]
      exact (hin _).2 (Or.inr h.at)
    · exact (hin _).2 (Or.inr (h.ok.down _ _ h1))
  · rcases (hin _).1 hy with h1 | h1
    · rw [← hup] at h1
      have := List.append_inj_right' h1 rfl
      simp at this
      rw [this]
      exact he
    · exact h.ok.edge _ _ h1
  · rw [hin]
    constructor
    · rintro (h1 | h1)
      · exact Or.inr ⟨q + 1, by omega, Nat.le_refl _, h1⟩
      · rcases (h.mem y).1 h1 with h2 | ⟨t, h2, h3, h4⟩
        · exact Or.inl h2
        · exact Or.inr ⟨t, h2, by omega, h4⟩
    · rintro (h1 | ⟨t, h1, h2, h3⟩)
      · exact Or.inr ((h.mem y).2 (Or.inl h1))
      · by_cases e : t = q + 1
        · subst e; exact Or.inl h3
        · exact Or.inr ((h.mem y).2 (Or.inr ⟨t, h1, by omega, h3⟩))
  · rw [insAt_len _ hi, h.len]; omega
  · rw [upW_ne _ _ (by simp)]; exact h.root
  · exact b5.below h.nx h.nx.size (fun g e => by cases e; exact h.pt.ge _ h.at) (fun g e => h.pt.mge _ g h.at e)
  · refine h.box.keep b5 (fun e => ?_) (fun e => ?_)
    · exact blk_ne h.box (h.pt.nd _ h.at) (by simpa [node] using hcs) (Option.some.inj e)
    · exact (h.pt.kd _ h.at).ne e.symm h.box rfl
  · rw [← hup, upW_at]
def PlE (x : Ru) (ws : List (List Int)) (mu : List Int → Int) (bd : List Int → Bool) (bl : List Int → Nat) (w0 w' : World) (r : Ending) : Prop :=
  ∃ ws' bl' mv' d, r = .returned (.int .i64 ((d : Nat) : Int)) ∧ PT ws' (muP x mu) (bdP x bd) w0.heap.size w' bl' mv' ∧ WS ws' ∧ (∀ y, inW ws' y ↔ inW ws y ∨ ∃ t, 1 ≤ t ∧ t ≤ most x ∧ y = x.seq.take t) ∧ ws'.length = ws.length + d ∧ d ≤ 402 ∧ bl' [] = bl [] ∧ Nx w0 w'

set_option maxHeartbeats 4000000 in
theorem plant_no (B : Nat) (x : Ru) (sa : Option Addr) (p sc : Nat) (ws : List (List Int)) (mu : List Int → Int) (bd : List Int → Bool) (bl : List Int → Nat) (mv : List Int → Value) (w0 w : World) (P : PT ws mu bd w0.heap.size w bl mv) (W : WS ws) (hN : Nx w0 w) (hl : x.seq.length = p + 1) (hS : HInts B w0 (.slice sa (p + 1) sc) x.seq) (hp0 : 1 ≤ p) (hp4 : p + 1 ≤ 402) (hcap : p + 1 ≤ sc) (he : ∀ j, j < x.seq.length → 0 ≤ iat x.seq j ∧ iat x.seq j < 4000) (hws : ws.length ≤ 2000) (hmu : ∀ y, ¬ inW ws y → mu y = -1) (hbd : ∀ y, ¬ inW ws y → bd y = false) (ho : x.only = false) :
    Calls Try.prog 69 #[ptr (bl []), .agg #[.int .i64 x.rel, .bool false, .slice sa (p + 1) sc]] w fun r w' => PlE x ws mu bd bl w0 w' r := by
  have HO : Hid (x.only = false) := ho
  have HM : Hid (most x = (p + 1)) := by unfold Hid most; rw [ho, hl]; rfl
  have HE : Hid (∀ j, j < x.seq.length → 0 ≤ iat x.seq j ∧ iat x.seq j < 4000) := he
  have HMU : Hid (∀ y, ¬ inW ws y → mu y = -1) := hmu
  have HBD : Hid (∀ y, ¬ inW ws y → bd y = false) := hbd
  have HL : Hid (x.seq.length = p + 1) := hl
  have HWS : Hid (ws.length ≤ 2000) := hws
  have HB0 : Hid (Blk (w.alloc (.cells #[.int .i64 x.rel, .bool false, .slice sa (p + 1) sc] 62)) w.heap.size #[.int .i64 x.rel, .bool false, .slice sa (p + 1) sc]) := Blk.new w _ _ _ rfl
  have HQ0 : Hid (PQ x 0 ws mu bd bl w0 (w.alloc (.cells #[.int .i64 x.rel, .bool false, .slice sa (p + 1) sc] 62)) ws bl mv 0 w.heap.size #[.int .i64 x.rel, .bool false, .slice sa (p + 1) sc]) :=
    ⟨P.next (box1 _ _), W, fun y => ⟨Or.inl, fun h => h.elim id fun ⟨t, h1, h2, _⟩ => by omega⟩, rfl, Nat.le_refl _, rfl, hN.alloc _, HB0.out⟩
  obtain ⟨sa', sc', e', hsn, hsk⟩ := hS
  simp only [Value.slice.injEq] at e'
  obtain ⟨rfl, hqq, rfl⟩ := e'
  rw [HL.out] at hsk
  obtain ⟨bq, oq, rfl, _, hbq, hcq⟩ := hsk (by omega)
  have HCQ : Hid (∀ i, i < p + 1 → w0.cell? ⟨bq, oq + i, none⟩ = some (.int .i64 (iat x.seq i))) := hcq
  have wp1 : IntKind.i64.wrap ((p : Int) + 1 - 1) = (p : Int) := by rw [IntKind.wrap_i64]; omega
  have wp2 : ((p : Int) + 1 - 1) = (p : Int) := by omega
  have wp3 := wrapJ p (by omega)
  have hpc : (p : Int) ≤ sc := by omega
  have k1 : (w.alloc (.cells #[.int .i64 x.rel, .bool false, .slice (some ⟨bq, oq, none⟩) (p + 1) sc] 62)).cell? ⟨w.heap.size, 1, none⟩ = some (.bool false) := HB0.out.cell (i := 1) rfl
  have k2 : (w.alloc (.cells #[.int .i64 x.rel, .bool false, .slice (some ⟨bq, oq, none⟩) (p + 1) sc] 62)).cell? ⟨w.heap.size, 2, none⟩ = some (.slice (some ⟨bq, oq, none⟩) (p + 1) sc) := HB0.out.cell (i := 2) rfl
  clear hqq hcq hsk hsn hmu hbd he hl ho P W hN hws
  unfold ptr
  go_enter Try.func69, Try.ntmps69
  go_wp2
  clear k1 k2
  go_loopw [7, 8, 10, 11, 25] (fun e7 e8 _ _ i wr => ∃ (q d : Nat) (ws' : List (List Int)) (bl' : List Int → Nat) (mv' : List Int → Value), q ≤ (p + 1) ∧ i = .int .i64 q ∧ e7 = .pointer (some ⟨bl' (x.seq.take q), 0, none⟩) ∧ e8 = .int .i64 d ∧ Hid (PQ x q ws mu bd bl w0 wr ws' bl' mv' d w.heap.size #[.int .i64 x.rel, .bool false, .slice (some ⟨bq, oq, none⟩) (p + 1) sc])) (fun _ _ _ _ i _ => (p + 1) - (intOf i).toNat)
  case atStart => exact ⟨0, 0, ws, bl, mv, by omega, rfl, rfl, rfl, HQ0⟩
  clear HQ0 HB0
  obtain ⟨q, d, ws', bl', mv', hqp, rfl, rfl, rfl, HQ⟩ := hrel
  have HAT : Hid (inW ws' (x.seq.take q)) := HQ.out.at
  have hdq := HQ.out.dq
  by_cases hlt : q < (p + 1)
  · have hlt' : (q : Int) < ((p : Int) + 1) := by omega
    have hlt2 : (q : Int) < (p : Int) + 1 := by omega
    have HQL : Hid (q < x.seq.length) := by unfold Hid; rw [HL.out]; omega
    have x0 := cell_next HQ.out.nx hbq (HCQ.out q (by omega))
    have ND := HQ.out.pt.nd _ HAT.out
    have k7 : wr.cell? ⟨bl' (x.seq.take q), 7, none⟩ = some (mv' (x.seq.take q)) := ND.cell (i := 7) rfl
    have HND : Hid (Blk wr (bl' (x.seq.take q)) (node 0 (x.seq.take q).length (lastE (x.seq.take q)) (mu (x.seq.take q)) (bd (x.seq.take q)) (if x.seq.take q = [] then .pointer none else ptr (bl' (x.seq.take q).dropLast)) (.pointer none) (mv' (x.seq.take q)))) := ND
    have hw : (Lit.int .i64 (iat x.seq q)).wf = true := wf_small (HE.out q HQL.out).1 (HE.out q HQL.out).2
    have hlk := (HQ.out.pt.kd _ HAT.out).look hw
    have HWF : Hid ((Lit.int .i64 (iat x.seq q)).wf = true) := hw
    clear ND hw
    cases hk : kidOf (kidsW ws' bl' (x.seq.take q)) (iat x.seq q) with
    | some c =>
      have hy := kidW_yes hk
      rw [take_up HQL.out] at hy
      have HQ2 : Hid (PQ x (q + 1) ws mu bd bl w0 wr ws' bl' mv' d w.heap.size #[.int .i64 x.rel, .bool false, .slice (some ⟨bq, oq, none⟩) (p + 1) sc]) := HQ.out.old hy.1
      have HC : Hid (c = bl' (x.seq.take (q + 1))) := hy.2
      rw [hk] at hlk
      simp only [ptrO, ptr] at hlk
      clear hk hy HND HWF
      go_wp2
      go_roundw
      case rel => exact ⟨q + 1, d, ws', bl', mv', by omega, by go_num, by rw [HC.out], rfl, HQ2⟩
      case measure => simp [intOf]; omega
    | none =>
      have hy := kidW_no hk
      obtain ⟨i, hi, hp⟩ := place_ex HQ.out.ok.asc (x.seq.take q ++ [iat x.seq q])
      have hsp := kids_split (bl := bl') hi hp hy
      have HMK : Hid (MK wr (mv' (x.seq.take q)) (kidsW (ws'.take i) bl' (x.seq.take q) ++ kidsW (ws'.drop i) bl' (x.seq.take q))) := by unfold Hid; rw [← hsp.1]; exact HQ.out.pt.kd _ HAT.out
      have HSP : Hid ((∀ p ∈ kidsW (ws'.take i) bl' (x.seq.take q), p.1 < iat x.seq q) ∧ ∀ p ∈ kidsW (ws'.drop i) bl' (x.seq.take q), iat x.seq q < p.1) := hsp.2
      have HKL : Hid ((kidsW (ws'.take i) bl' (x.seq.take q) ++ kidsW (ws'.drop i) bl' (x.seq.take q)).length ≤ 4000) := by
        unfold Hid
        rw [← hsp.1]
        have := kidsW_len ws' bl' (x.seq.take q)
        have := HQ.out.len
        have := HWS.out
        omega
      have HI : Hid (i ≤ ws'.length) := hi
      have HP : Hid (PlaceW ws' (x.seq.take q ++ [iat x.seq q]) i i) := hp
      have HY : Hid (¬ inW ws' (x.seq.take (q + 1))) := by unfold Hid; rw [← take_up HQL.out]; exact hy
      have HTL : Hid ((x.seq.take q).length ≤ 402) := by unfold Hid; rw [List.length_take]; omega
      rw [hk] at hlk
      simp only [ptrO] at hlk
      clear hk hy hi hp hsp
      go_wp2_with fail
      refine (growAt_any _ _ _ _ _ _ _ _ _ _ _ (iat x.seq q) wr HND.out HMK.out HSP.out HKL.out (by omega) (by have := HTL.out; omega) HWF.out).mono ?_
      rintro r w5 ⟨m', rfl, b1, b2, b3, b4, b5⟩
      obtain ⟨ws2, bl2, mv2, hpq, hbl⟩ := HQ.out.grown HQL.out (HE.out q HQL.out) HY.out HI.out HP.out HMU.out HBD.out (by simp) b1 b2 b3 b4 b5
      have HPQ : Hid (PQ x (q + 1) ws mu bd bl w0 w5 ws2 bl2 mv2 (d + 1) w.heap.size #[.int .i64 x.rel, .bool false, .slice (some ⟨bq, oq, none⟩) (p + 1) sc]) := hpq
      have HBL : Hid (bl2 (x.seq.take (q + 1)) = wr.heap.size) := hbl
      clear b1 b2 b3 b4 b5 hpq hbl hlk k7 x0
      unfold ptr
      go_wp2
      go_roundw
      case rel => exact ⟨q + 1, d + 1, ws2, bl2, mv2, by omega, by go_num, by rw [HBL.out], by go_num, HPQ⟩
      case measure => simp [intOf]; omega
  · have eq : q = (p + 1) := by omega
    have hnl : ¬ (q : Int) < ((p : Int) + 1) := by omega
    have HQM : Hid (q = most x) := by unfold Hid; rw [HM.out]; exact eq
    have HMEM : Hid (∀ y, inW ws' y ↔ inW ws y ∨ ∃ t, 1 ≤ t ∧ t ≤ most x ∧ y = x.seq.take t) := fun y => by rw [← HQM.out]; exact HQ.out.mem y
    have z1 : wr.cell? ⟨w.heap.size, 1, none⟩ = some (.bool false) := HQ.out.box.cell (i := 1) rfl
    have ND := HQ.out.pt.nd _ HAT.out
    have k4 : wr.cell? ⟨bl' (x.seq.take q), 4, none⟩ = some (.bool (bd (x.seq.take q))) := ND.cell (i := 4) rfl
    have f4 := ND.frozen 4
    have HFIN : Hid (PT ws' (muP x mu) (bdP x bd) w0.heap.size (wr.setCell ⟨bl' (x.seq.take q), 4, none⟩ (.bool true)) bl' mv') := by
      have h1 := HQ.out.pt.ban HAT.out true
      unfold Hid
      rw [show muP x mu = mu by unfold muP; rw [HO.out]; rfl, show bdP x bd = upW bd (x.seq.take q) true by unfold bdP; rw [HO.out, ← HQM.out]; rfl]
      exact h1
    have HNX : Hid (Nx w0 (wr.setCell ⟨bl' (x.seq.take q), 4, none⟩ (.bool true))) := Below.setCell HQ.out.nx (HQ.out.pt.ge _ HAT.out) _
    have HD4 : Hid (d ≤ 402) := by unfold Hid; omega
    clear ND eq hlt
    generalize bl' (x.seq.take q) = bx at *
    go_wp2
    go_ret
    exact ⟨ws', bl', mv', d, rfl, HFIN.out, HQ.out.ok, HMEM.out, HQ.out.len, HD4.out, HQ.out.root, HNX.out⟩

set_option maxHeartbeats 4000000 in
theorem plant_only (B : Nat) (x : Ru) (sa : Option Addr) (p sc : Nat) (ws : List (List Int)) (mu : List Int → Int) (bd : List Int → Bool) (bl : List Int → Nat) (mv : List Int → Value) (w0 w : World) (P : PT ws mu bd w0.heap.size w bl mv) (W : WS ws) (hN : Nx w0 w) (hl : x.seq.length = p + 1) (hS : HInts B w0 (.slice sa (p + 1) sc) x.seq) (hp0 : 1 ≤ p) (hp4 : p + 1 ≤ 402) (hcap : p + 1 ≤ sc) (he : ∀ j, j < x.seq.length → 0 ≤ iat x.seq j ∧ iat x.seq j < 4000) (hws : ws.length ≤ 2000) (hmu : ∀ y, ¬ inW ws y → mu y = -1) (hbd : ∀ y, ¬ inW ws y → bd y = false) (ho : x.only = true) :
    Calls Try.prog 69 #[ptr (bl []), .agg #[.int .i64 x.rel, .bool true, .slice sa (p + 1) sc]] w fun r w' => PlE x ws mu bd bl w0 w' r := by
  have HO : Hid (x.only = true) := ho
  have HM : Hid (most x = p) := by unfold Hid most; rw [ho, hl]; rfl
  have HE : Hid (∀ j, j < x.seq.length → 0 ≤ iat x.seq j ∧ iat x.seq j < 4000) := he
  have HMU : Hid (∀ y, ¬ inW ws y → mu y = -1) := hmu
  have HBD : Hid (∀ y, ¬ inW ws y → bd y = false) := hbd
  have HL : Hid (x.seq.length = p + 1) := hl
  have HWS : Hid (ws.length ≤ 2000) := hws
  have HB0 : Hid (Blk (w.alloc (.cells #[.int .i64 x.rel, .bool true, .slice sa (p + 1) sc] 62)) w.heap.size #[.int .i64 x.rel, .bool true, .slice sa (p + 1) sc]) := Blk.new w _ _ _ rfl
  have HQ0 : Hid (PQ x 0 ws mu bd bl w0 (w.alloc (.cells #[.int .i64 x.rel, .bool true, .slice sa (p + 1) sc] 62)) ws bl mv 0 w.heap.size #[.int .i64 x.rel, .bool true, .slice sa (p + 1) sc]) :=
    ⟨P.next (box1 _ _), W, fun y => ⟨Or.inl, fun h => h.elim id fun ⟨t, h1, h2, _⟩ => by omega⟩, rfl, Nat.le_refl _, rfl, hN.alloc _, HB0.out⟩
  obtain ⟨sa', sc', e', hsn, hsk⟩ := hS
  simp only [Value.slice.injEq] at e'
  obtain ⟨rfl, hqq, rfl⟩ := e'
  rw [HL.out] at hsk
  obtain ⟨bq, oq, rfl, _, hbq, hcq⟩ := hsk (by omega)
  have HCQ : Hid (∀ i, i < p + 1 → w0.cell? ⟨bq, oq + i, none⟩ = some (.int .i64 (iat x.seq i))) := hcq
  have wp1 : IntKind.i64.wrap ((p : Int) + 1 - 1) = (p : Int) := by rw [IntKind.wrap_i64]; omega
  have wp2 : ((p : Int) + 1 - 1) = (p : Int) := by omega
  have wp3 := wrapJ p (by omega)
  have hpc : (p : Int) ≤ sc := by omega
  have k1 : (w.alloc (.cells #[.int .i64 x.rel, .bool true, .slice (some ⟨bq, oq, none⟩) (p + 1) sc] 62)).cell? ⟨w.heap.size, 1, none⟩ = some (.bool true) := HB0.out.cell (i := 1) rfl
  have k2 : (w.alloc (.cells #[.int .i64 x.rel, .bool true, .slice (some ⟨bq, oq, none⟩) (p + 1) sc] 62)).cell? ⟨w.heap.size, 2, none⟩ = some (.slice (some ⟨bq, oq, none⟩) (p + 1) sc) := HB0.out.cell (i := 2) rfl
  clear hqq hcq hsk hsn hmu hbd he hl ho P W hN hws
  unfold ptr
  go_enter Try.func69, Try.ntmps69
  go_wp2
  clear k1 k2
  go_loopw [7, 8, 10, 11, 25] (fun e7 e8 _ _ i wr => ∃ (q d : Nat) (ws' : List (List Int)) (bl' : List Int → Nat) (mv' : List Int → Value), q ≤ p ∧ i = .int .i64 q ∧ e7 = .pointer (some ⟨bl' (x.seq.take q), 0, none⟩) ∧ e8 = .int .i64 d ∧ Hid (PQ x q ws mu bd bl w0 wr ws' bl' mv' d w.heap.size #[.int .i64 x.rel, .bool true, .slice (some ⟨bq, oq, none⟩) (p + 1) sc])) (fun _ _ _ _ i _ => p - (intOf i).toNat)
  case atStart => exact ⟨0, 0, ws, bl, mv, by omega, rfl, rfl, rfl, HQ0⟩
  clear HQ0 HB0
  obtain ⟨q, d, ws', bl', mv', hqp, rfl, rfl, rfl, HQ⟩ := hrel
  have HAT : Hid (inW ws' (x.seq.take q)) := HQ.out.at
  have hdq := HQ.out.dq
  by_cases hlt : q < p
  · have hlt' : (q : Int) < (p : Int) := by omega
    have hlt2 : (q : Int) < (p : Int) + 1 := by omega
    have HQL : Hid (q < x.seq.length) := by unfold Hid; rw [HL.out]; omega
    have x0 := cell_next HQ.out.nx hbq (HCQ.out q (by omega))
    have ND := HQ.out.pt.nd _ HAT.out
    have k7 : wr.cell? ⟨bl' (x.seq.take q), 7, none⟩ = some (mv' (x.seq.take q)) := ND.cell (i := 7) rfl
    have HND : Hid (Blk wr (bl' (x.seq.take q)) (node 0 (x.seq.take q).length (lastE (x.seq.take q)) (mu (x.seq.take q)) (bd (x.seq.take q)) (if x.seq.take q = [] then .pointer none else ptr (bl' (x.seq.take q).dropLast)) (.pointer none) (mv' (x.seq.take q)))) := ND
    have hw : (Lit.int .i64 (iat x.seq q)).wf = true := wf_small (HE.out q HQL.out).1 (HE.out q HQL.out).2
    have hlk := (HQ.out.pt.kd _ HAT.out).look hw
    have HWF : Hid ((Lit.int .i64 (iat x.seq q)).wf = true) := hw
    clear ND hw
    cases hk : kidOf (kidsW ws' bl' (x.seq.take q)) (iat x.seq q) with
    | some c =>
      have hy := kidW_yes hk
      rw [take_up HQL.out] at hy
      have HQ2 : Hid (PQ x (q + 1) ws mu bd bl w0 wr ws' bl' mv' d w.heap.size #[.int .i64 x.rel, .bool true, .slice (some ⟨bq, oq, none⟩) (p + 1) sc]) := HQ.out.old hy.1
      have HC : Hid (c = bl' (x.seq.take (q + 1))) := hy.2
      rw [hk] at hlk
      simp only [ptrO, ptr] at hlk
      clear hk hy HND HWF
      go_wp2
      go_roundw
      case rel => exact ⟨q + 1, d, ws', bl', mv', by omega, by go_num, by rw [HC.out], rfl, HQ2⟩
      case measure => simp [intOf]; omega
    | none =>
      have hy := kidW_no hk
      obtain ⟨i, hi, hp⟩ := place_ex HQ.out.ok.asc (x.seq.take q ++ [iat x.seq q])
      have hsp := kids_split (bl := bl') hi hp hy
      have HMK : Hid (MK wr (mv' (x.seq.take q)) (kidsW (ws'.take i) bl' (x.seq.take q) ++ kidsW (ws'.drop i) bl' (x.seq.take q))) := by unfold Hid; rw [← hsp.1]; exact HQ.out.pt.kd _ HAT.out
      have HSP : Hid ((∀ p ∈ kidsW (ws'.take i) bl' (x.seq.take q), p.1 < iat x.seq q) ∧ ∀ p ∈ kidsW (ws'.drop i) bl' (x.seq.take q), iat x.seq q < p.1) := hsp.2
      have HKL : Hid ((kidsW (ws'.take i) bl' (x.seq.take q) ++ kidsW (ws'.drop i) bl' (x.seq.take q)).length ≤ 4000) := by
        unfold Hid
        rw [← hsp.1]
        have := kidsW_len ws' bl' (x.seq.take q)
        have := HQ.out.len
        have := HWS.out
        omega
      have HI : Hid (i ≤ ws'.length) := hi
      have HP : Hid (PlaceW ws' (x.seq.take q ++ [iat x.seq q]) i i) := hp
      have HY : Hid (¬ inW ws' (x.seq.take (q + 1))) := by unfold Hid; rw [← take_up HQL.out]; exact hy
      have HTL : Hid ((x.seq.take q).length ≤ 402) := by unfold Hid; rw [List.length_take]; omega
      rw [hk] at hlk
      simp only [ptrO] at hlk
      clear hk hy hi hp hsp
      go_wp2_with fail
      refine (growAt_any _ _ _ _ _ _ _ _ _ _ _ (iat x.seq q) wr HND.out HMK.out HSP.out HKL.out (by omega) (by have := HTL.out; omega) HWF.out).mono ?_
      rintro r w5 ⟨m', rfl, b1, b2, b3, b4, b5⟩
      obtain ⟨ws2, bl2, mv2, hpq, hbl⟩ := HQ.out.grown HQL.out (HE.out q HQL.out) HY.out HI.out HP.out HMU.out HBD.out (by simp) b1 b2 b3 b4 b5
      have HPQ : Hid (PQ x (q + 1) ws mu bd bl w0 w5 ws2 bl2 mv2 (d + 1) w.heap.size #[.int .i64 x.rel, .bool true, .slice (some ⟨bq, oq, none⟩) (p + 1) sc]) := hpq
      have HBL : Hid (bl2 (x.seq.take (q + 1)) = wr.heap.size) := hbl
      clear b1 b2 b3 b4 b5 hpq hbl hlk k7 x0
      unfold ptr
      go_wp2
      go_roundw
      case rel => exact ⟨q + 1, d + 1, ws2, bl2, mv2, by omega, by go_num, by rw [HBL.out], by go_num, HPQ⟩
      case measure => simp [intOf]; omega
  · have eq : q = p := by omega
    have hnl : ¬ (q : Int) < (p : Int) := by omega
    have HQM : Hid (q = most x) := by unfold Hid; rw [HM.out]; exact eq
    have HMEM : Hid (∀ y, inW ws' y ↔ inW ws y ∨ ∃ t, 1 ≤ t ∧ t ≤ most x ∧ y = x.seq.take t) := fun y => by rw [← HQM.out]; exact HQ.out.mem y
    have z1 : wr.cell? ⟨w.heap.size, 1, none⟩ = some (.bool true) := HQ.out.box.cell (i := 1) rfl
    have z2 : wr.cell? ⟨w.heap.size, 2, none⟩ = some (.slice (some ⟨bq, oq, none⟩) (p + 1) sc) := HQ.out.box.cell (i := 2) rfl
    have x0 := cell_next HQ.out.nx hbq (HCQ.out p (by omega))
    have hpp : (p : Int) < (p : Int) + 1 := by omega
    have ND := HQ.out.pt.nd _ HAT.out
    have k3 : wr.cell? ⟨bl' (x.seq.take q), 3, none⟩ = some (.int .i64 (mu (x.seq.take q))) := ND.cell (i := 3) rfl
    have f3 := ND.frozen 3
    have HFIN : Hid (PT ws' (muP x mu) (bdP x bd) w0.heap.size (wr.setCell ⟨bl' (x.seq.take q), 3, none⟩ (.int .i64 (jm (mu (x.seq.take q)) (iat x.seq p)))) bl' mv') := by
      have h1 := HQ.out.pt.ask HAT.out (jm (mu (x.seq.take q)) (iat x.seq p))
      unfold Hid
      rw [show muP x mu = upW mu (x.seq.take q) (jm (mu (x.seq.take q)) (iat x.seq p)) by unfold muP; rw [if_pos HO.out, ← HQM.out, HL.out]; rfl, show bdP x bd = bd by unfold bdP; rw [if_pos HO.out]]
      exact h1
    have HNX : Hid (Nx w0 (wr.setCell ⟨bl' (x.seq.take q), 3, none⟩ (.int .i64 (jm (mu (x.seq.take q)) (iat x.seq p))))) := Below.setCell HQ.out.nx (HQ.out.pt.ge _ HAT.out) _
    have HD4 : Hid (d ≤ 402) := by unfold Hid; omega
    clear ND eq hlt
    generalize mu (x.seq.take q) = m0 at *
    generalize iat x.seq p = l0 at *
    generalize bl' (x.seq.take q) = bx at *
    go_wp2
    go_region_with (go_at_call 74; refine (joinMusts_any _ _ _).mono ?_; rintro e w6 ⟨rfl, rfl⟩)
    all_goals go_wp2
    all_goals go_ret
    all_goals exact ⟨ws', bl', mv', d, rfl, HFIN.out.next (Nx.refl _).drew, HQ.out.ok, HMEM.out, HQ.out.len, HD4.out, HQ.out.root, HNX.out.drew⟩
end Go.Proofs.Ytifefpeefcjabaa
