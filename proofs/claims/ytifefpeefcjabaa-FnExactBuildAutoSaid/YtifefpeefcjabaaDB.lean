import Derived.Test.YtifefpeefcjabaaDA
namespace Go.Proofs.Ytifefpeefcjabaa
open Go.RowKit Go.Maps
set_option linter.unusedVariables false
set_option maxRecDepth 100000

theorem ins_mid (x : Lit × DataW Unit) (l1 l2 : List (Lit × DataW Unit)) (h1 : ∀ p ∈ l1, x.1.before p.1 = false) (h2 : ∀ p ∈ l2, x.1.before p.1 = true) : DataW.insert x (l1 ++ l2) = l1 ++ x :: l2 := by
  induction l1 with
  | nil =>
    cases l2 with
    | nil => rfl
    | cons y l =>
      rw [List.nil_append, List.nil_append]
      unfold DataW.insert
      rw [h2 y (List.mem_cons_self ..)]
      simp
  | cons y l ih =>
    rw [List.cons_append]
    unfold DataW.insert
    rw [h1 y (List.mem_cons_self ..)]
    simp only [Bool.false_eq_true, if_false, List.cons_append]
    rw [ih fun p hp => h1 p (List.mem_cons_of_mem _ hp)]
theorem kids_put2 {k1 k2 : List (Int × Nat)} {e : Int} (b : Nat) (h1 : ∀ p ∈ k1, p.1 < e) (h2 : ∀ p ∈ k2, e < p.1) : (kidsD (k1 ++ k2)).put (.int .i64 e) (.lit (.int .i64 (b : Int))) = kidsD (k1 ++ (e, b) :: k2) := by
  unfold kidsD
  rw [DataW.put_eq]
  congr 1
  unfold ChangeMaps.putKey
  have hf : ((k1 ++ k2).map kidE).filter (ChangeMaps.notKey (.int .i64 e)) = (k1 ++ k2).map kidE := by
    rw [List.filter_eq_self]
    intro p hp
    obtain ⟨q, hq, rfl⟩ := List.mem_map.1 hp
    have : q.1 ≠ e := by
      rcases List.mem_append.1 hq with h | h
      · have := h1 q h; omega
      · have := h2 q h; omega
    simp [ChangeMaps.notKey, kidE, Lit.sameKey]
    omega
  rw [hf, List.map_append, ins_mid]
  · simp [kidE]
  · intro p hp
    obtain ⟨q, hq, rfl⟩ := List.mem_map.1 hp
    have := h1 q hq
    simp [kidE, Lit.before]
    omega
  · intro p hp
    obtain ⟨q, hq, rfl⟩ := List.mem_map.1 hp
    have := h2 q hq
    simp [kidE, Lit.before]
    omega
set_option maxHeartbeats 2000000 in
theorem grow_mid (b mb : Nat) (num len last must : Int) (bad : Bool) (par fl : Value) (ka kb : List (Int × Nat)) (e : Int) (w : World) (hb : Blk w b (node num len last must bad par fl (.map (some mb)))) (hm : w.ownsMap Try.prog 2 ptrR mb (ka ++ kb).length (kidsD (ka ++ kb))) (he : (∀ p ∈ ka, p.1 < e) ∧ ∀ p ∈ kb, e < p.1) (hks : (ka ++ kb).length ≤ 4000) (hl0 : 0 ≤ len) (hl1 : len ≤ 100000) (hw : (Lit.int .i64 e).wf = true) :
    Calls Try.prog 65 #[ptr b, .int .i64 e] w fun r w' => r = .returned (ptr w.heap.size) ∧ Blk w' w.heap.size (node 0 (len + 1) e (-1) false (ptr b) (.pointer none) (.map none)) ∧ Blk w' b (node num len last must bad par fl (.map (some mb))) ∧ MK w' (.map (some mb)) (ka ++ (e, w.heap.size) :: kb) ∧ But none (some mb) w w' := by
  have HB : Hid (Blk w b (node num len last must bad par fl (.map (some mb)))) := hb
  have HM : Hid (w.ownsMap Try.prog 2 ptrR mb (ka ++ kb).length (kidsD (ka ++ kb))) := hm
  have HE : Hid ((∀ p ∈ ka, p.1 < e) ∧ ∀ p ∈ kb, e < p.1) := he
  have HNE : Hid (b ≠ mb) := by
    intro e0
    subst e0
    obtain ⟨t, h1⟩ := hb
    obtain ⟨es, clock, h2, _⟩ := hm
    rw [h1] at h2
    simp at h2
  have HML : Hid (mb < w.heap.size) := hm.lt
  have k1 : w.cell? ⟨b, 1, none⟩ = some (.int .i64 len) := hb.cell (i := 1) rfl
  have hlt := hb.lt
  have hwl : IntKind.i64.wrap (len + 1) = len + 1 := by rw [IntKind.wrap_i64]; omega
  clear hm he
  unfold ptr
  go_enter Try.func65, Try.ntmps65
  go_upto_region 2 with fail
  have HB1 : Hid (Blk (w.alloc (.cells #[.int .i64 0, .int .i64 (len + 1), .int .i64 e, .int .i64 (-1), .bool false, .pointer (some ⟨b, 0, none⟩), .pointer none, .map none] 82)) b (node num len last must bad par fl (.map (some mb)))) := HB.out.alloc _
  have HBC : Hid (Blk (w.alloc (.cells #[.int .i64 0, .int .i64 (len + 1), .int .i64 e, .int .i64 (-1), .bool false, .pointer (some ⟨b, 0, none⟩), .pointer none, .map none] 82)) w.heap.size (node 0 (len + 1) e (-1) false (ptr b) (.pointer none) (.map none))) := Blk.new w _ 82 _ rfl
  have HN1 : Hid (Nx w (w.alloc (.cells #[.int .i64 0, .int .i64 (len + 1), .int .i64 e, .int .i64 (-1), .bool false, .pointer (some ⟨b, 0, none⟩), .pointer none, .map none] 82))) := box1 _ _
  have HM1 : Hid ((w.alloc (.cells #[.int .i64 0, .int .i64 (len + 1), .int .i64 e, .int .i64 (-1), .bool false, .pointer (some ⟨b, 0, none⟩), .pointer none, .map none] 82)).ownsMap Try.prog 2 ptrR mb (ka ++ kb).length (kidsD (ka ++ kb))) := HM.out.alloc _
  clear hb k1
  generalize hw1 : w.alloc (.cells #[.int .i64 0, .int .i64 (len + 1), .int .i64 e, .int .i64 (-1), .bool false, .pointer (some ⟨b, 0, none⟩), .pointer none, .map none] 82) = w1 at *
  clear hw1
  have k7 : w1.cell? ⟨b, 7, none⟩ = some (.map (some mb)) := HB1.out.cell (i := 7) rfl
  have q53 : ∀ (w : World) (r : Option Nat), (binOp .eql 80 (.map r) (.map none)).run Try.prog w = .ok (.bool r.isNone) w := fun w r => run_eql_map_nil w _ _ _ r Try.underlying80
  go_wp2_with (at_mapUpdate; refine wpList_mapUpdate_own _ rfl _ _ _ 80 rfl 2 78 keyI Try.underlying80 ptrR mb (ka ++ kb).length (kidsD (ka ++ kb)) rfl HM1.out (by unfold maxLen; omega) (.int .i64 e) (.pointer (some ⟨w.heap.size, 0, none⟩)) (.int .i64 e) rfl rfl (keyOf_int_mk Try.underlying2 hw) (.lit (.int .i64 (w.heap.size : Int))) [] rfl ?_)
  intro w4 hown hg
  have HM4 : Hid (MK w4 (.map (some mb)) (ka ++ (e, w.heap.size) :: kb)) := Or.inr ⟨_, rfl, by rw [kids_put2 _ HE.out.1 HE.out.2] at hown; rw [show (ka ++ (e, w.heap.size) :: kb).length = ka.length + kb.length + 1 by simp; omega]; exact hown⟩
  have HC4 : Hid (Blk w4 w.heap.size (node 0 (len + 1) e (-1) false (ptr b) (.pointer none) (.map none))) := HBC.out.grownB hg (by intro e; have := Option.some.inj e; have := HML.out; omega)
  have HB4 : Hid (Blk w4 b (node num len last must bad par fl (.map (some mb)))) := HB1.out.grownB hg (by intro e; exact HNE.out (Option.some.inj e))
  have HW4 : Hid (But none (some mb) w w4) := (But.of_nx HN1.out).grow hg (fun g hg => Or.inr hg)
  clear hown hg k7
  go_wp2
  go_ret
  exact ⟨rfl, HC4.out, HB4.out, HM4.out, HW4.out⟩
/-- a node grows a child, its edge between others -/
theorem growAt_any (b : Nat) (num len last must : Int) (bad : Bool) (par fl m : Value) (k1 k2 : List (Int × Nat)) (e : Int) (w : World) (hb : Blk w b (node num len last must bad par fl m)) (hm : MK w m (k1 ++ k2)) (he : (∀ p ∈ k1, p.1 < e) ∧ ∀ p ∈ k2, e < p.1) (hks : (k1 ++ k2).length ≤ 4000) (hl0 : 0 ≤ len) (hl1 : len ≤ 100000) (hw : (Lit.int .i64 e).wf = true) :
    Calls Try.prog 65 #[ptr b, .int .i64 e] w fun r w' => ∃ m', r = .returned (ptr w.heap.size) ∧ Blk w' w.heap.size (node 0 (len + 1) e (-1) false (ptr b) (.pointer none) (.map none)) ∧ Blk w' b (node num len last must bad par fl m') ∧ MK w' m' (k1 ++ (e, w.heap.size) :: k2) ∧ (mapBlk m' = mapBlk m ∨ mapBlk m' = some (w.heap.size + 1)) ∧ But (some b) (mapBlk m) w w' := by
  rcases hm with ⟨rfl, hk⟩ | ⟨mb, rfl, hm⟩
  · obtain ⟨rfl, rfl⟩ := List.append_eq_nil_iff.1 hk
    refine (grow_nil b num len last must bad par fl e w hb hl0 hl1 hw).mono ?_
    rintro r w' ⟨h1, h2, h3, h4, h5⟩
    exact ⟨_, h1, h2, h3, h4, Or.inr rfl, h5⟩
  · refine (grow_mid b mb num len last must bad par fl k1 k2 e w hb hm he hks hl0 hl1 hw).mono ?_
    rintro r w' ⟨h1, h2, h3, h4, h5⟩
    exact ⟨_, h1, h2, h3, h4, Or.inl rfl, ⟨h5.os, h5.tape, h5.output, h5.size, fun x hx _ hn => h5.block x hx (by simp) hn⟩⟩
def upW {α : Type} (f : List Int → α) (k : List Int) (v : α) : List Int → α := fun t => if t = k then v else f t
theorem upW_at {α : Type} (f : List Int → α) (k : List Int) (v : α) : upW f k v k = v := by simp [upW]
theorem upW_ne {α : Type} (f : List Int → α) {k t : List Int} (v : α) (h : t ≠ k) : upW f k v t = f t := by simp [upW, h]
theorem mem_in {ws : List (List Int)} {x : List Int} : x ∈ ws ↔ inW ws x := by
  constructor
  · intro h
    obtain ⟨j, hj, e⟩ := List.mem_iff_getElem.1 h
    exact ⟨j, hj, by simp [wd, List.getD, hj, e]⟩
  · rintro ⟨j, hj, e⟩
    rw [← e]
    simp [wd, List.getD, hj]
/-- the nodes of words; all of it lies from block B on -/
structure PT (ws : List (List Int)) (mu : List Int → Int) (bd : List Int → Bool) (B : Nat) (w : World) (bl : List Int → Nat) (mv : List Int → Value) : Prop where
  nd : ∀ x, inW ws x → Blk w (bl x) (node 0 x.length (lastE x) (mu x) (bd x) (if x = [] then .pointer none else ptr (bl x.dropLast)) (.pointer none) (mv x))
  kd : ∀ x, inW ws x → MK w (mv x) (kidsW ws bl x)
  inj : ∀ x y, inW ws x → inW ws y → bl x = bl y → x = y
  ge : ∀ x, inW ws x → B ≤ bl x
  mge : ∀ x mb, inW ws x → mapBlk (mv x) = some mb → B ≤ mb
  ap : ∀ x y mb, inW ws x → inW ws y → mapBlk (mv x) = some mb → mapBlk (mv y) = some mb → x = y
theorem kidsW_congr {ws : List (List Int)} {bl bl' : List Int → Nat} (h : ∀ x ∈ ws, bl' x = bl x) (x : List Int) : kidsW ws bl' x = kidsW ws bl x := by
  unfold kidsW
  exact List.map_congr_left fun y hy => by rw [h y (List.mem_filter.1 hy).1]
theorem kidsW_app (l1 l2 : List (List Int)) (bl : List Int → Nat) (x : List Int) : kidsW (l1 ++ l2) bl x = kidsW l1 bl x ++ kidsW l2 bl x := by
  simp [kidsW, List.filter_append]
theorem kidsW_cons (y : List Int) (l : List (List Int)) (bl : List Int → Nat) (x : List Int) : kidsW (y :: l) bl x = (if isKid x y then [(lastE y, bl y)] else []) ++ kidsW l bl x := by
  unfold kidsW
  rw [List.filter_cons]
  by_cases h : isKid x y = true
  · rw [if_pos h, if_pos h]; rfl
  · rw [if_neg h, if_neg h]; rfl
theorem isKid_snoc (x z : List Int) (e : Int) : isKid z (x ++ [e]) = decide (z = x) := by
  unfold isKid
  rw [List.dropLast_concat]
  congr 1
  apply propext
  exact ⟨fun h => h.2.symm, fun h => ⟨by simp, h.symm⟩⟩
/-- the children of a word, on both sides of a new one -/
theorem kids_split {ws : List (List Int)} {bl : List Int → Nat} {x : List Int} {e : Int} {i : Nat} (hi : i ≤ ws.length) (hp : PlaceW ws (x ++ [e]) i i) (hn : ¬ inW ws (x ++ [e])) :
    kidsW ws bl x = kidsW (ws.take i) bl x ++ kidsW (ws.drop i) bl x ∧ (∀ p ∈ kidsW (ws.take i) bl x, p.1 < e) ∧ ∀ p ∈ kidsW (ws.drop i) bl x, e < p.1 := by
  refine ⟨by rw [← kidsW_app, List.take_append_drop], fun p h => ?_, fun p h => ?_⟩
  · unfold kidsW at h
    obtain ⟨y, hy, rfl⟩ := List.mem_map.1 h
    rw [List.mem_filter] at hy
    obtain ⟨hy1, hy2⟩ := hy
    simp [isKid] at hy2
    obtain ⟨j, hj, ej⟩ := List.mem_iff_getElem.1 hy1
    rw [List.length_take] at hj
    rw [List.getElem_take] at ej
    have hb := hp.1 j (by omega)
    have e1 : wd ws j = y := by simp [wd, List.getD, show j < ws.length by omega, ej]
    rw [e1, snoc_of hy2.1, hy2.2, bef_snoc, bef_self] at hb
    simpa using hb
  · unfold kidsW at h
    obtain ⟨y, hy, rfl⟩ := List.mem_map.1 h
    rw [List.mem_filter] at hy
    obtain ⟨hy1, hy2⟩ := hy
    simp [isKid] at hy2
    obtain ⟨j, hj, ej⟩ := List.mem_iff_getElem.1 hy1
    rw [List.length_drop] at hj
    rw [List.getElem_drop] at ej
    have hb := hp.2 (i + j) (by omega) (by omega)
    have e1 : wd ws (i + j) = y := by simp [wd, List.getD, show i + j < ws.length by omega, ej]
    have hne : y ≠ x ++ [e] := fun e' => hn ⟨i + j, by omega, e1.trans e'⟩
    have hb2 := bef_tri hne (by rw [← e1]; exact hb)
    rw [snoc_of hy2.1, hy2.2, bef_snoc, bef_self] at hb2
    simpa using hb2
theorem kidsW_len (ws : List (List Int)) (bl : List Int → Nat) (x : List Int) : (kidsW ws bl x).length ≤ ws.length := by
  unfold kidsW
  rw [List.length_map]
  exact List.length_filter_le _ _
theorem PT.grow {ws : List (List Int)} {mu : List Int → Int} {bd : List Int → Bool} {B : Nat} {w w' : World} {bl : List Int → Nat} {mv : List Int → Value} (h : PT ws mu bd B w bl mv) {x : List Int} {e : Int} {i : Nat} (hx : inW ws x) (hy : ¬ inW ws (x ++ [e])) (hd : ∀ x e, inW ws (x ++ [e]) → inW ws x) (hi : i ≤ ws.length) (hp : PlaceW ws (x ++ [e]) i i) (hmu : mu (x ++ [e]) = -1) (hbd : bd (x ++ [e]) = false) (hB : B ≤ w.heap.size) {m' : Value}
    (b1 : Blk w' w.heap.size (node 0 (x.length + 1) e (-1) false (ptr (bl x)) (.pointer none) (.map none)))
    (b2 : Blk w' (bl x) (node 0 x.length (lastE x) (mu x) (bd x) (if x = [] then .pointer none else ptr (bl x.dropLast)) (.pointer none) m'))
    (b3 : MK w' m' (kidsW (ws.take i) bl x ++ (e, w.heap.size) :: kidsW (ws.drop i) bl x)) (b4 : mapBlk m' = mapBlk (mv x) ∨ mapBlk m' = some (w.heap.size + 1)) (b5 : But (some (bl x)) (mapBlk (mv x)) w w') :
    PT (insAt ws i (x ++ [e])) mu bd B w' (upW bl (x ++ [e]) w.heap.size) (upW (upW mv x m') (x ++ [e]) (.map none)) := by
  have hI : InsW ws (x ++ [e]) (insAt ws i (x ++ [e])) := Or.inr ⟨hy, i, hi, hp, rfl⟩
  have hxy : x ≠ x ++ [e] := fun e' => by have := congrArg List.length e'; simp at this
  have hne : ∀ z, inW ws z → z ≠ x ++ [e] := fun z hz e' => hy (e' ▸ hz)
  have hpar : ∀ z, inW ws z → z ≠ [] → inW ws z.dropLast := fun z hz h0 => hd _ (lastE z) (by rw [← snoc_of h0]; exact hz)
  have hlt : ∀ z, inW ws z → bl z < w.heap.size := fun z hz => (h.nd z hz).lt
  have hbl : ∀ z ∈ ws, upW bl (x ++ [e]) w.heap.size z = bl z := fun z hz => upW_ne _ _ (hne z (mem_in.1 hz))
  have hms : ∀ mb, mapBlk (upW (upW mv x m') (x ++ [e]) (.map none) (x ++ [e])) = some mb → False := fun mb e => by rw [upW_at] at e; simp [mapBlk] at e
  have hmm : ∀ z mb, inW ws z → mapBlk (upW (upW mv x m') (x ++ [e]) (.map none) z) = some mb → mapBlk (mv z) = some mb ∨ (z = x ∧ mb = w.heap.size + 1) := by
    intro z mb hz e1
    rw [upW_ne _ _ (hne z hz)] at e1
    by_cases hzx : z = x
    · subst hzx
      rw [upW_at] at e1
      rcases b4 with b4 | b4
      · exact Or.inl (by rw [← b4]; exact e1)
      · exact Or.inr ⟨rfl, by rw [b4] at e1; exact (Option.some.inj e1).symm⟩
    · rw [upW_ne _ _ hzx] at e1
      exact Or.inl e1
  have hkid : ∀ z, kidsW (insAt ws i (x ++ [e])) (upW bl (x ++ [e]) w.heap.size) z = kidsW (ws.take i) bl z ++ ((if z = x then [(e, w.heap.size)] else []) ++ kidsW (ws.drop i) bl z) := by
    intro z
    unfold insAt
    rw [kidsW_app, kidsW_cons, isKid_snoc, lastE_snoc, upW_at, kidsW_congr (fun y hy => hbl y (List.mem_of_mem_take hy)), kidsW_congr (fun y hy => hbl y (List.mem_of_mem_drop hy))]
    by_cases hz : z = x
    · simp [hz]
    · simp [hz]
  refine ⟨fun z hz => ?_, fun z hz => ?_, fun y z hy' hz e1 => ?_, fun z hz => ?_, fun z mb hz e1 => ?_, fun y z mb hy' hz e1 e2 => ?_⟩
  · rcases (hI.mem z).1 hz with rfl | hz
    · rw [upW_at, upW_at, if_neg (by simp), List.dropLast_concat, upW_ne _ _ hxy, hmu, hbd, lastE_snoc, List.length_append]
      exact b1
    · have hq : (if z = [] then Value.pointer none else ptr (upW bl (x ++ [e]) w.heap.size z.dropLast)) = (if z = [] then Value.pointer none else ptr (bl z.dropLast)) := by
        by_cases h0 : z = []
        · rw [if_pos h0, if_pos h0]
        · rw [if_neg h0, if_neg h0, upW_ne _ _ (hne _ (hpar z hz h0))]
      rw [hq, upW_ne _ _ (hne z hz), upW_ne _ _ (hne z hz)]
      by_cases hzx : z = x
      · subst hzx
        rw [upW_at]
        exact b2
      · rw [upW_ne _ _ hzx]
        exact (h.nd z hz).keep b5 (fun e1 => hzx (h.inj z x hz hx (Option.some.inj e1))) (fun e1 => (h.kd x hx).ne e1.symm (h.nd z hz) rfl)
  · rw [hkid]
    rcases (hI.mem z).1 hz with rfl | hz
    · rw [upW_at, if_neg (fun e' => hxy e'.symm)]
      refine Or.inl ⟨rfl, ?_⟩
      have hno : ∀ l : List (List Int), (∀ y ∈ l, y ∈ ws) → kidsW l bl (x ++ [e]) = [] := by
        intro l hl
        unfold kidsW
        rw [List.map_eq_nil_iff, List.filter_eq_nil_iff]
        intro y hy1 hy2
        simp [isKid] at hy2
        exact hy (hy2.2 ▸ hpar y (mem_in.1 (hl y hy1)) hy2.1)
      rw [hno _ (fun y hy => List.mem_of_mem_take hy), hno _ (fun y hy => List.mem_of_mem_drop hy)]
      rfl
    · rw [upW_ne _ _ (hne z hz)]
      by_cases hzx : z = x
      · subst hzx
        rw [upW_at, if_pos rfl]
        exact b3
      · rw [upW_ne _ _ hzx, if_neg hzx, List.nil_append, ← kidsW_app, List.take_append_drop]
        refine (h.kd z hz).keep b5 fun mb e1 => ⟨fun e' => ?_, fun e' => ?_⟩
        · exact (h.kd z hz).ne e1 (h.nd x hx) (Option.some.inj e')
        · exact hzx (h.ap z x mb hz hx e1 e'.symm)
  · rcases (hI.mem y).1 hy' with rfl | hy'
    · rcases (hI.mem z).1 hz with rfl | hz
      · rfl
      · rw [upW_at, upW_ne _ _ (hne z hz)] at e1
        have := hlt z hz
        omega
    · rcases (hI.mem z).1 hz with rfl | hz
      · rw [upW_at, upW_ne _ _ (hne y hy')] at e1
        have := hlt y hy'
        omega
      · rw [upW_ne _ _ (hne z hz), upW_ne _ _ (hne y hy')] at e1
        exact h.inj y z hy' hz e1
  · rcases (hI.mem z).1 hz with rfl | hz
    · rw [upW_at]; exact hB
    · rw [upW_ne _ _ (hne z hz)]; exact h.ge z hz
  · rcases (hI.mem z).1 hz with rfl | hz
    · exact (hms mb e1).elim
    · rcases hmm z mb hz e1 with h2 | ⟨_, h2⟩
      · exact h.mge z mb hz h2
      · omega
  · rcases (hI.mem y).1 hy' with rfl | hy'
    · exact (hms mb e1).elim
    · rcases (hI.mem z).1 hz with rfl | hz
      · exact (hms mb e2).elim
      · rcases hmm y mb hy' e1 with h2 | ⟨h2, h2'⟩
        · rcases hmm z mb hz e2 with h3 | ⟨h3, h3'⟩
          · exact h.ap y z mb hy' hz h2 h3
          · have := (h.kd y hy').lt h2
            omega
        · rcases hmm z mb hz e2 with h3 | ⟨h3, h3'⟩
          · have := (h.kd z hz).lt h3
            omega
          · rw [h2, h3]
/-- what a word asks is turned -/
theorem PT.ask {ws : List (List Int)} {mu : List Int → Int} {bd : List Int → Bool} {B : Nat} {w : World} {bl : List Int → Nat} {mv : List Int → Value} (h : PT ws mu bd B w bl mv) {x : List Int} (hx : inW ws x) (z : Int) : PT ws (upW mu x z) bd B (w.setCell ⟨bl x, 3, none⟩ (.int .i64 z)) bl mv := by
  refine ⟨fun y hy => ?_, fun y hy => (h.kd y hy).set (h.nd x hx) _ _, h.inj, h.ge, h.mge, h.ap⟩
  by_cases e : y = x
  · subst e
    rw [upW_at]
    exact (h.nd y hy).set 3 _
  · rw [upW_ne _ _ e]
    exact (h.nd y hy).setOther (fun e' => e (h.inj y x hy hx e')) _ _
theorem PT.ban {ws : List (List Int)} {mu : List Int → Int} {bd : List Int → Bool} {B : Nat} {w : World} {bl : List Int → Nat} {mv : List Int → Value} (h : PT ws mu bd B w bl mv) {x : List Int} (hx : inW ws x) (z : Bool) : PT ws mu (upW bd x z) B (w.setCell ⟨bl x, 4, none⟩ (.bool z)) bl mv := by
  refine ⟨fun y hy => ?_, fun y hy => (h.kd y hy).set (h.nd x hx) _ _, h.inj, h.ge, h.mge, h.ap⟩
  by_cases e : y = x
  · subst e
    rw [upW_at]
    exact (h.nd y hy).set 4 _
  · rw [upW_ne _ _ e]
    exact (h.nd y hy).setOther (fun e' => e (h.inj y x hy hx e')) _ _
theorem PT.next {ws : List (List Int)} {mu : List Int → Int} {bd : List Int → Bool} {B : Nat} {w w' : World} {bl : List Int → Nat} {mv : List Int → Value} (h : PT ws mu bd B w bl mv) (k : Nx w w') : PT ws mu bd B w' bl mv :=
  ⟨fun y hy => (h.nd y hy).next k, fun y hy => (h.kd y hy).keep (o := none) (o' := none) (But.of_nx k) (fun mb _ => ⟨by simp, by simp⟩), h.inj, h.ge, h.mge, h.ap⟩
/-- the nodes by their numbers -/
theorem PT.trie {ws : List (List Int)} {mu : List Int → Int} {bd : List Int → Bool} {B : Nat} {w : World} {bl : List Int → Nat} {mv : List Int → Value} (h : PT ws mu bd B w bl mv) (hW : WS ws) (hm : mu [] = -1) (hb : bd [] = false) :
    TR (autoOf ws mu bd) ws.length 1 w (fun s => bl (wd ws s)) (fun _ => .pointer none) (fun s => mv (wd ws s)) (fun _ => 0) := by
  refine ⟨fun s hs => ?_, fun s hs => ?_, rfl, fun s h1 h2 => by omega, fun s t hs ht e => ?_⟩
  · have hn := h.nd (wd ws s) ⟨s, hs, rfl⟩
    rw [auto_wd hW hs, auto_la hs, auto_mu hs, auto_bd hs]
    by_cases h0 : s = 0
    · subst h0
      rw [if_pos rfl, if_pos rfl, if_pos rfl]
      rw [hW.root] at hn ⊢
      rw [hm, hb, if_pos rfl] at hn
      exact hn
    · obtain ⟨t, ht, et, hst, _⟩ := hW.par (by omega) hs
      rw [if_neg h0, if_neg h0, if_neg h0, auto_pa hW (by omega) hs hst, Int.toNat_natCast, et]
      rw [if_neg (hW.ne (by omega) hs)] at hn
      exact hn
  · rw [kids_words hW bl hs]
    exact h.kd _ ⟨s, hs, rfl⟩
  · exact asc_inj hW.asc hs ht (h.inj _ _ ⟨s, hs, rfl⟩ ⟨t, ht, rfl⟩ e)
end Go.Proofs.Ytifefpeefcjabaa
