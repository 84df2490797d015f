import Derived.Test.YtedhchmigeooiaaDoorEnF
namespace Go.Proofs.YtedhchmigeooiaaDoor
open Go.RowKit
set_option linter.unusedVariables false
set_option maxRecDepth 100000

/-- weights and nodes in turn, behind the first node -/
def pairs (x : Wy) : List Int := (List.range x.weights.length).flatMap fun i => [iat x.weights i, iat x.nodes (i + 1)]
theorem two_len (f g : Nat → Int) (n : Nat) : ((List.range n).flatMap fun i => [f i, g i]).length = 2 * n := by
  induction n with
  | zero => rfl
  | succ n ih => rw [List.range_succ, List.flatMap_append, List.length_append, ih]; simp; omega
theorem pairs_len (x : Wy) : (pairs x).length = 2 * x.weights.length := two_len _ _ _
theorem flat_two (f g : Nat → Int) (n : Nat) : ∀ i, i < n → iat ((List.range n).flatMap fun i => [f i, g i]) (2 * i) = f i ∧ iat ((List.range n).flatMap fun i => [f i, g i]) (2 * i + 1) = g i := by
  induction n with
  | zero => intro i hi; omega
  | succ n ih =>
    intro i hi
    have hl := two_len f g n
    rw [List.range_succ, List.flatMap_append]
    unfold iat at ih ⊢
    simp only [List.getD_eq_getElem?_getD] at ih ⊢
    by_cases e : i = n
    · subst e
      constructor
      · rw [List.getElem?_append_right (by omega), hl]; simp
      · rw [List.getElem?_append_right (by omega), hl, show 2 * i + 1 - 2 * i = 1 by omega]; simp
    · have h := ih i (by omega)
      rw [List.getElem?_append_left (by omega), List.getElem?_append_left (by omega)]
      exact h
theorem pairs_at {x : Wy} {k : Nat} (h : k < x.weights.length) : iat (pairs x) (2 * k) = iat x.weights k ∧ iat (pairs x) (2 * k + 1) = iat x.nodes (k + 1) := flat_two _ _ _ k h
theorem pairs_step {x : Wy} {k : Nat} (h : k < x.weights.length) : numsTo (pairs x) (2 * (k + 1)) = numsTo (pairs x) (2 * k) ++ numsTo [iat x.weights k, iat x.nodes (k + 1)] [iat x.weights k, iat x.nodes (k + 1)].length := by
  have ⟨h1, h2⟩ := pairs_at h
  rw [show 2 * (k + 1) = 2 * k + 1 + 1 by omega]
  simp only [numsTo, List.length_cons, List.length_nil, h1, h2]
  simp [iat]
theorem pairs_small {x : Wy} (hn : small x.nodes) (hw : small x.weights) (hl : x.nodes.length = x.weights.length + 1) : small (pairs x) := by
  intro i hi
  rw [pairs_len] at hi
  rcases (show ∃ k, (i = 2 * k ∨ i = 2 * k + 1) ∧ k < x.weights.length from ⟨i / 2, by omega, by omega⟩) with ⟨k, hk | hk, hlt⟩
  · subst hk; rw [(pairs_at hlt).1]; exact hw k hlt
  · subst hk; rw [(pairs_at hlt).2]; exact hn (k + 1) (by omega)
theorem nums_len {B : Nat} {w : World} {a : Option Addr} {n c : Nat} {zs : List Int} (h : HNums B w (.slice a n c) zs) : zs.length = n := by
  obtain ⟨a', c', e, _⟩ := h
  simp at e
  exact e.2.1.symm
theorem cell_of {B : Nat} {w w' : World} {a : Option Addr} {n c : Nat} {zs : List Int} (h : HNums B w (.slice a n c) zs) (g : Gx B w w') {k : Nat} (hk : k < zs.length) : ∃ b off, a = some ⟨b, off, none⟩ ∧ w'.cell? ⟨b, off + k, none⟩ = some (.int .i64 (iat zs k)) := by
  obtain ⟨a', c', e, _, hc⟩ := h.keep g
  simp at e
  obtain ⟨b, off, ha, _, _, hx⟩ := hc (by omega)
  exact ⟨b, off, e.1.trans ha, (hx k hk).2⟩

set_option maxHeartbeats 2000000 in
theorem appendWay_f (B : Nat) (v0 : Value) (b0 : List UInt8) (x : Wy) (a1 a2 : Option Addr) (n1 c1 n2 c2 : Nat) (w : World) (hown : Own B w v0 b0) (hB : B ≤ w.heap.size) (hl : b0.length ≤ 380000) (hzn : HNums B w (.slice a1 n1 c1) x.nodes) (hzw : HNums B w (.slice a2 n2 c2) x.weights) (hsn : small x.nodes) (hsw : small x.weights)
    (hl1 : x.nodes.length = x.weights.length + 1) (hl2 : x.weights.length ≤ 100) (hid : 0 ≤ x.id ∧ x.id ≤ 1048576) (ht : Tab B w) :
    Calls Tryd.prog 27 #[v0, .agg #[.int .i64 x.id, .bool false, .slice a1 n1 c1, .slice a2 n2 c2]] w fun e w' => (∃ v', e = .returned v' ∧ Own B w' v' (b0 ++ ([119, 97, 121] ++ (numsTo [x.id] [x.id].length ++ ([32, 102] ++ (numsTo [iat x.nodes 0] [iat x.nodes 0].length ++ (numsTo (pairs x) (2 * x.weights.length) ++ [10]))))))) ∧ Gx B w w' := by
  obtain ⟨i0, hi, hz0, hz1, hz2⟩ := info_parts infoByte
  have HZN : Hid (HNums B w (.slice a1 n1 c1) x.nodes) := hzn
  have HZW : Hid (HNums B w (.slice a2 n2 c2) x.weights) := hzw
  have HSN : Hid (small x.nodes) := hsn
  have HSW : Hid (small x.weights) := hsw
  have HT : Hid (Tab B w) := ht
  have HID : Hid (0 ≤ x.id ∧ x.id ≤ 1048576) := hid
  have HQ1 : Hid (x.nodes.length = n1) := nums_len hzn
  have HQ2 : Hid (x.weights.length = n2) := nums_len hzw
  have HN0 : Hid (0 < x.nodes.length) := by unfold Hid; omega
  have HL12' : Hid (x.nodes.length = x.weights.length + 1) := hl1
  have HL12 : Hid (n1 = n2 + 1) := by have a := HQ1.out; have b := HQ2.out; unfold Hid; omega
  have hn2 : n2 ≤ 100 := by rw [← HQ2.out]; exact hl2
  clear hl1 hl2
  have HO0 : Hid (Own B (w.alloc (.cells #[.int .i64 x.id, .bool false, .slice a1 n1 c1, .slice a2 n2 c2] 50)) v0 b0) := hown.alloc _
  have HA0 : Hid (Gx B w (w.alloc (.cells #[.int .i64 x.id, .bool false, .slice a1 n1 c1, .slice a2 n2 c2] 50))) := (Gx.refl B w).alloc hB _
  have HB0 : Hid (B ≤ (w.alloc (.cells #[.int .i64 x.id, .bool false, .slice a1 n1 c1, .slice a2 n2 c2] 50)).heap.size) := HA0.out.1.size |> Nat.le_trans hB
  have HL0 : Hid (b0.length ≤ b0.length + 0) := Nat.le_refl _
  have BA0 : BlkN (w.alloc (.cells #[.int .i64 x.id, .bool false, .slice a1 n1 c1, .slice a2 n2 c2] 50)) w.heap.size #[.int .i64 x.id, .bool false, .slice a1 n1 c1, .slice a2 n2 c2] := BlkN.new _ _ _ _ (by decide) rfl
  clear hown hid hzn hzw hsn hsw ht
  go_enter Tryd.func27, Tryd.ntmps27
  go_wp2_with (at_builtin; refine Lib.wpList_append_own_string _ rfl _ _ 29 9 rfl B 5 i0 Tryd.underlying29 Tryd.underlying9 hi hz0 hz1 hz2 _ _ _ rfl HO0.out ⟨#[119, 97, 121]⟩ rfl ?la1 ?lb1 HB0.out ?_)
  case la1 => have := HL0.out; simp only [ByteArray.size]; unfold maxLen; simp; omega
  case lb1 => have := HL0.out; simp [ByteArray.size]; omega
  intro v1 w1 hown' hgrow _
  have HO1 : Hid (Own B w1 v1 (b0 ++ [119, 97, 121])) := Own.str hown'
  have HG1 : Hid (Gx B (w.alloc (.cells #[.int .i64 x.id, .bool false, .slice a1 n1 c1, .slice a2 n2 c2] 50)) w1) := (Gx.refl B (w.alloc (.cells #[.int .i64 x.id, .bool false, .slice a1 n1 c1, .slice a2 n2 c2] 50))).grown HO0.out hgrow HB0.out
  clear hown' hgrow
  have HA1 : Hid (Gx B w w1) := HA0.out.trans HG1.out
  have HB1 : Hid (B ≤ w1.heap.size) := Nat.le_trans HB0.out HG1.out.1.size
  have HL1 : Hid ((b0 ++ [119, 97, 121]).length ≤ b0.length + 3) := by
    have h1 := HL0.out
    unfold Hid
    simp only [List.length_append, List.length_cons, List.length_nil]
    omega
  have BA1 := BA0.keep HG1.out
  generalize hb1 : b0 ++ [119, 97, 121] = b1 at *
  have HE1 : Hid (b0 ++ [119, 97, 121] = b1) := hb1
  clear hb1
  have kk0 := BA1.blk.cell (i := 0) rfl
  go_wp2_with fail
  refine (appendNumbers_any B _ b1 _ [x.id] _ (HO1.out.alloc _) (by have := HB1.out; simp at this ⊢; omega) (by have := HL1.out; omega) (nums1 _ _ _) (by simp) (small1 HID.out) (HT.out.on (HA1.out.trans ((Gx.refl B w1).alloc HB1.out _)).1)).mono ?_
  rintro e w2 ⟨⟨v2, rfl, ho⟩, hg⟩
  have HO2 : Hid (Own B w2 v2 (b1 ++ numsTo [x.id] [x.id].length)) := ho
  have HG2 : Hid (Gx B w1 w2) := ((Gx.refl B w1).alloc HB1.out _).trans hg
  clear ho hg
  have HA2 : Hid (Gx B w w2) := HA1.out.trans HG2.out
  have HB2 : Hid (B ≤ w2.heap.size) := Nat.le_trans HB1.out HG2.out.1.size
  have HL2 : Hid ((b1 ++ numsTo [x.id] [x.id].length).length ≤ b0.length + 11) := by
    have h1 := HL1.out
    unfold Hid
    have h2 := numsTo_len (small1 HID.out) _ (Nat.le_refl [x.id].length)
    rw [List.length_append]
    try simp only [List.length_cons, List.length_nil] at h2 ⊢
    omega
  have BA2 := BA1.keep HG2.out
  generalize hb2 : b1 ++ numsTo [x.id] [x.id].length = b2 at *
  have HE2 : Hid (b1 ++ numsTo [x.id] [x.id].length = b2) := hb2
  clear hb2
  go_wp2_with (at_builtin; refine Lib.wpList_append_own_string _ rfl _ _ 29 9 rfl B 5 i0 Tryd.underlying29 Tryd.underlying9 hi hz0 hz1 hz2 _ _ _ rfl HO2.out ⟨#[32, 102]⟩ rfl ?la3 ?lb3 HB2.out ?_)
  case la3 => have := HL2.out; simp only [ByteArray.size]; unfold maxLen; simp; omega
  case lb3 => have := HL2.out; simp [ByteArray.size]; omega
  intro v3 w3 hown' hgrow _
  have HO3 : Hid (Own B w3 v3 (b2 ++ [32, 102])) := Own.str hown'
  have HG3 : Hid (Gx B w2 w3) := (Gx.refl B w2).grown HO2.out hgrow HB2.out
  clear hown' hgrow
  have HA3 : Hid (Gx B w w3) := HA2.out.trans HG3.out
  have HB3 : Hid (B ≤ w3.heap.size) := Nat.le_trans HB2.out HG3.out.1.size
  have HL3 : Hid ((b2 ++ [32, 102]).length ≤ b0.length + 13) := by
    have h1 := HL2.out
    unfold Hid
    simp only [List.length_append, List.length_cons, List.length_nil]
    omega
  have BA3 := BA2.keep HG3.out
  generalize hb3 : b2 ++ [32, 102] = b3 at *
  have HE3 : Hid (b2 ++ [32, 102] = b3) := hb3
  clear hb3
  have kk2 := BA3.blk.cell (i := 2) rfl
  obtain ⟨nb, noff, hna, hnc⟩ := cell_of HZN.out HA3.out (k := 0) HN0.out
  subst hna
  have hn1p : (0 : Int) < n1 := by have := HN0.out; rw [HQ1.out] at this; omega
  have hnc' : w3.cell? ⟨nb, noff, none⟩ = some (.int .i64 (iat x.nodes 0)) := hnc
  go_wp2_with fail
  refine (appendNumbers_any B _ b3 _ [iat x.nodes 0] _ (HO3.out.alloc _) (by have := HB3.out; simp at this ⊢; omega) (by have := HL3.out; omega) (nums1 _ _ _) (by simp) (small1 (HSN.out 0 HN0.out)) (HT.out.on (HA3.out.trans ((Gx.refl B w3).alloc HB3.out _)).1)).mono ?_
  rintro e w4 ⟨⟨v4, rfl, ho⟩, hg⟩
  have HO4 : Hid (Own B w4 v4 (b3 ++ numsTo [iat x.nodes 0] [iat x.nodes 0].length)) := ho
  have HG4 : Hid (Gx B w3 w4) := ((Gx.refl B w3).alloc HB3.out _).trans hg
  clear ho hg
  have HA4 : Hid (Gx B w w4) := HA3.out.trans HG4.out
  have HB4 : Hid (B ≤ w4.heap.size) := Nat.le_trans HB3.out HG4.out.1.size
  have HL4 : Hid ((b3 ++ numsTo [iat x.nodes 0] [iat x.nodes 0].length).length ≤ b0.length + 21) := by
    have h1 := HL3.out
    unfold Hid
    have h2 := numsTo_len (small1 (HSN.out 0 HN0.out)) _ (Nat.le_refl [iat x.nodes 0].length)
    rw [List.length_append]
    try simp only [List.length_cons, List.length_nil] at h2 ⊢
    omega
  have BA4 := BA3.keep HG4.out
  generalize hb4 : b3 ++ numsTo [iat x.nodes 0] [iat x.nodes 0].length = b4 at *
  have HE4 : Hid (b3 ++ numsTo [iat x.nodes 0] [iat x.nodes 0].length = b4) := hb4
  clear hb4
  have kk3 := BA4.blk.cell (i := 3) rfl
  go_wp2
  go_loopw [0, 6, 7, 30] (fun o p q i wr => ∃ k : Nat, k ≤ n2 ∧ i = .int .i64 k ∧ Hid (Own B wr o (b4 ++ numsTo (pairs x) (2 * k))) ∧ Hid (Gx B w4 wr)) (fun _ _ _ i _ => n2 - (intOf i).toNat)
  case atStart => exact ⟨0, Nat.zero_le _, rfl, by unfold Hid; rw [show numsTo (pairs x) (2 * 0) = [] from rfl, List.append_nil]; exact HO4.out, Gx.refl _ _⟩
  case round =>
    obtain ⟨k, hkn, rfl, HO, HG⟩ := hrel
    have HGA : Hid (Gx B w wr) := HA4.out.trans HG.out
    have HB : Hid (B ≤ wr.heap.size) := Nat.le_trans HB4.out HG.out.1.size
    have HLL : Hid ((b4 ++ numsTo (pairs x) (2 * k)).length ≤ b0.length + 21 + 1600) := by
      have h1 := HL4.out
      have h2 := numsTo_len (pairs_small HSN.out HSW.out HL12'.out) (2 * k) (by rw [pairs_len, HQ2.out]; omega)
      unfold Hid
      rw [List.length_append]
      omega
    have BR := BA4.keep HG.out
    by_cases hlt : k < n2
    · obtain ⟨b2', off2, h2a, h2c⟩ := cell_of HZW.out HGA.out (k := k) (by rw [HQ2.out]; exact hlt)
      subst h2a
      obtain ⟨b3', off3, h3a, h3c⟩ := cell_of HZN.out HGA.out (k := k + 1) (by rw [HQ1.out, HL12.out]; omega)
      simp only [Option.some.injEq, Addr.mk.injEq] at h3a
      obtain ⟨e3a, e3b, _⟩ := h3a
      rw [← e3a, ← e3b] at h3c
      clear e3a e3b
      have hlt' : (k : Int) < n2 := by omega
      have hltn : (k : Int) + 1 < n1 := by have := HL12.out; omega
      have q2 := BR.blk.cell (i := 2) rfl
      go_wp2_with fail
      refine (appendNumbers_any B _ (b4 ++ numsTo (pairs x) (2 * k)) _ [iat x.weights k, iat x.nodes (k + 1)] _ (HO.out.alloc _) (by have := HB.out; simp; omega) (by have := HLL.out; omega) (nums2 _ _ _ _) (by simp) (small2 (HSW.out k (by rw [HQ2.out]; exact hlt)) (HSN.out (k + 1) (by rw [HQ1.out, HL12.out]; omega))) (HT.out.on (HGA.out.trans ((Gx.refl B wr).alloc HB.out _)).1)).mono ?_
      rintro e wn ⟨⟨vn, rfl, ho⟩, hg⟩
      have HO' : Hid (Own B wn vn (b4 ++ numsTo (pairs x) (2 * (k + 1)))) := by
        unfold Hid
        rw [pairs_step (by rw [HQ2.out]; exact hlt), ← List.append_assoc]
        exact ho
      have HG' : Hid (Gx B w4 wn) := HG.out.trans (((Gx.refl B wr).alloc HB.out _).trans hg)
      clear ho hg
      go_wp2
      go_roundw
      case rel => exact ⟨k + 1, by omega, by go_num, HO', HG'⟩
      case measure => simp [intOf]; omega
    · have ek : n2 = k := by omega
      subst ek
      go_wp2_with (at_builtin; refine wpList_append_own _ rfl _ _ 29 rfl B 5 i0 (.int .u8 0) 1 1 Tryd.underlying29 hi hz0 hz1 hz2 rfl (by decide) _ _ _ rfl (HO.out.alloc _) ⟨wr.heap.size, 0, none⟩ 1 1 [Value.int .u8 ((10 : UInt8).toNat : Int)] rfl rfl ?c1 ?c2 ?c3 ?c4 ?c5 ?_)
      case c1 =>
        intro j u hj
        match j, hj with
        | 0, hj => simp at hj; subst hj; simp [Addr.add]
      case c2 => intro u hu; simp at hu; subst hu; rfl
      case c3 => have := HLL.out; unfold maxLen; omega
      case c4 => have := HLL.out; omega
      case c5 => have := HB.out; simp; omega
      intro v' w' hown' hgrow _
      have HO' : Hid (Own B w' v' (b4 ++ numsTo (pairs x) (2 * n2) ++ [10])) := Own.snoc (by rw [List.length_append]; simpa using hown')
      have HG' : Hid (Gx B w w') := (HGA.out.alloc HB.out _).grown (HO.out.alloc _) hgrow (by have := HB.out; simp; omega)
      clear hown' hgrow
      go_wp2
      go_ret
      exact ⟨⟨_, rfl, by rw [HQ2.out]; have e1 := HE1.out; have e2 := HE2.out; have e3 := HE3.out; have e4 := HE4.out; subst e1 e2 e3 e4; simp only [List.append_assoc] at HO' ⊢; exact HO'.out⟩, HG'.out⟩

set_option maxHeartbeats 2000000 in
theorem appendWay_b (B : Nat) (v0 : Value) (b0 : List UInt8) (x : Wy) (a1 a2 : Option Addr) (n1 c1 n2 c2 : Nat) (w : World) (hown : Own B w v0 b0) (hB : B ≤ w.heap.size) (hl : b0.length ≤ 380000) (hzn : HNums B w (.slice a1 n1 c1) x.nodes) (hzw : HNums B w (.slice a2 n2 c2) x.weights) (hsn : small x.nodes) (hsw : small x.weights)
    (hl1 : x.nodes.length = x.weights.length + 1) (hl2 : x.weights.length ≤ 100) (hid : 0 ≤ x.id ∧ x.id ≤ 1048576) (ht : Tab B w) :
    Calls Tryd.prog 27 #[v0, .agg #[.int .i64 x.id, .bool true, .slice a1 n1 c1, .slice a2 n2 c2]] w fun e w' => (∃ v', e = .returned v' ∧ Own B w' v' (b0 ++ ([119, 97, 121] ++ (numsTo [x.id] [x.id].length ++ ([32, 98] ++ (numsTo [iat x.nodes 0] [iat x.nodes 0].length ++ (numsTo (pairs x) (2 * x.weights.length) ++ [10]))))))) ∧ Gx B w w' := by
  obtain ⟨i0, hi, hz0, hz1, hz2⟩ := info_parts infoByte
  have HZN : Hid (HNums B w (.slice a1 n1 c1) x.nodes) := hzn
  have HZW : Hid (HNums B w (.slice a2 n2 c2) x.weights) := hzw
  have HSN : Hid (small x.nodes) := hsn
  have HSW : Hid (small x.weights) := hsw
  have HT : Hid (Tab B w) := ht
  have HID : Hid (0 ≤ x.id ∧ x.id ≤ 1048576) := hid
  have HQ1 : Hid (x.nodes.length = n1) := nums_len hzn
  have HQ2 : Hid (x.weights.length = n2) := nums_len hzw
  have HN0 : Hid (0 < x.nodes.length) := by unfold Hid; omega
  have HL12' : Hid (x.nodes.length = x.weights.length + 1) := hl1
  have HL12 : Hid (n1 = n2 + 1) := by have a := HQ1.out; have b := HQ2.out; unfold Hid; omega
  have hn2 : n2 ≤ 100 := by rw [← HQ2.out]; exact hl2
  clear hl1 hl2
  have HO0 : Hid (Own B (w.alloc (.cells #[.int .i64 x.id, .bool true, .slice a1 n1 c1, .slice a2 n2 c2] 50)) v0 b0) := hown.alloc _
  have HA0 : Hid (Gx B w (w.alloc (.cells #[.int .i64 x.id, .bool true, .slice a1 n1 c1, .slice a2 n2 c2] 50))) := (Gx.refl B w).alloc hB _
  have HB0 : Hid (B ≤ (w.alloc (.cells #[.int .i64 x.id, .bool true, .slice a1 n1 c1, .slice a2 n2 c2] 50)).heap.size) := HA0.out.1.size |> Nat.le_trans hB
  have HL0 : Hid (b0.length ≤ b0.length + 0) := Nat.le_refl _
  have BA0 : BlkN (w.alloc (.cells #[.int .i64 x.id, .bool true, .slice a1 n1 c1, .slice a2 n2 c2] 50)) w.heap.size #[.int .i64 x.id, .bool true, .slice a1 n1 c1, .slice a2 n2 c2] := BlkN.new _ _ _ _ (by decide) rfl
  clear hown hid hzn hzw hsn hsw ht
  go_enter Tryd.func27, Tryd.ntmps27
  go_wp2_with (at_builtin; refine Lib.wpList_append_own_string _ rfl _ _ 29 9 rfl B 5 i0 Tryd.underlying29 Tryd.underlying9 hi hz0 hz1 hz2 _ _ _ rfl HO0.out ⟨#[119, 97, 121]⟩ rfl ?la1 ?lb1 HB0.out ?_)
  case la1 => have := HL0.out; simp only [ByteArray.size]; unfold maxLen; simp; omega
  case lb1 => have := HL0.out; simp [ByteArray.size]; omega
  intro v1 w1 hown' hgrow _
  have HO1 : Hid (Own B w1 v1 (b0 ++ [119, 97, 121])) := Own.str hown'
  have HG1 : Hid (Gx B (w.alloc (.cells #[.int .i64 x.id, .bool true, .slice a1 n1 c1, .slice a2 n2 c2] 50)) w1) := (Gx.refl B (w.alloc (.cells #[.int .i64 x.id, .bool true, .slice a1 n1 c1, .slice a2 n2 c2] 50))).grown HO0.out hgrow HB0.out
  clear hown' hgrow
  have HA1 : Hid (Gx B w w1) := HA0.out.trans HG1.out
  have HB1 : Hid (B ≤ w1.heap.size) := Nat.le_trans HB0.out HG1.out.1.size
  have HL1 : Hid ((b0 ++ [119, 97, 121]).length ≤ b0.length + 3) := by
    have h1 := HL0.out
    unfold Hid
    simp only [List.length_append, List.length_cons, List.length_nil]
    omega
  have BA1 := BA0.keep HG1.out
  generalize hb1 : b0 ++ [119, 97, 121] = b1 at *
  have HE1 : Hid (b0 ++ [119, 97, 121] = b1) := hb1
  clear hb1
  have kk0 := BA1.blk.cell (i := 0) rfl
  go_wp2_with fail
  refine (appendNumbers_any B _ b1 _ [x.id] _ (HO1.out.alloc _) (by have := HB1.out; simp at this ⊢; omega) (by have := HL1.out; omega) (nums1 _ _ _) (by simp) (small1 HID.out) (HT.out.on (HA1.out.trans ((Gx.refl B w1).alloc HB1.out _)).1)).mono ?_
  rintro e w2 ⟨⟨v2, rfl, ho⟩, hg⟩
  have HO2 : Hid (Own B w2 v2 (b1 ++ numsTo [x.id] [x.id].length)) := ho
  have HG2 : Hid (Gx B w1 w2) := ((Gx.refl B w1).alloc HB1.out _).trans hg
  clear ho hg
  have HA2 : Hid (Gx B w w2) := HA1.out.trans HG2.out
  have HB2 : Hid (B ≤ w2.heap.size) := Nat.le_trans HB1.out HG2.out.1.size
  have HL2 : Hid ((b1 ++ numsTo [x.id] [x.id].length).length ≤ b0.length + 11) := by
    have h1 := HL1.out
    unfold Hid
    have h2 := numsTo_len (small1 HID.out) _ (Nat.le_refl [x.id].length)
    rw [List.length_append]
    try simp only [List.length_cons, List.length_nil] at h2 ⊢
    omega
  have BA2 := BA1.keep HG2.out
  generalize hb2 : b1 ++ numsTo [x.id] [x.id].length = b2 at *
  have HE2 : Hid (b1 ++ numsTo [x.id] [x.id].length = b2) := hb2
  clear hb2
  go_wp2_with (at_builtin; refine Lib.wpList_append_own_string _ rfl _ _ 29 9 rfl B 5 i0 Tryd.underlying29 Tryd.underlying9 hi hz0 hz1 hz2 _ _ _ rfl HO2.out ⟨#[32, 98]⟩ rfl ?la3 ?lb3 HB2.out ?_)
  case la3 => have := HL2.out; simp only [ByteArray.size]; unfold maxLen; simp; omega
  case lb3 => have := HL2.out; simp [ByteArray.size]; omega
  intro v3 w3 hown' hgrow _
  have HO3 : Hid (Own B w3 v3 (b2 ++ [32, 98])) := Own.str hown'
  have HG3 : Hid (Gx B w2 w3) := (Gx.refl B w2).grown HO2.out hgrow HB2.out
  clear hown' hgrow
  have HA3 : Hid (Gx B w w3) := HA2.out.trans HG3.out
  have HB3 : Hid (B ≤ w3.heap.size) := Nat.le_trans HB2.out HG3.out.1.size
  have HL3 : Hid ((b2 ++ [32, 98]).length ≤ b0.length + 13) := by
    have h1 := HL2.out
    unfold Hid
    simp only [List.length_append, List.length_cons, List.length_nil]
    omega
  have BA3 := BA2.keep HG3.out
  generalize hb3 : b2 ++ [32, 98] = b3 at *
  have HE3 : Hid (b2 ++ [32, 98] = b3) := hb3
  clear hb3
  have kk2 := BA3.blk.cell (i := 2) rfl
  obtain ⟨nb, noff, hna, hnc⟩ := cell_of HZN.out HA3.out (k := 0) HN0.out
  subst hna
  have hn1p : (0 : Int) < n1 := by have := HN0.out; rw [HQ1.out] at this; omega
  have hnc' : w3.cell? ⟨nb, noff, none⟩ = some (.int .i64 (iat x.nodes 0)) := hnc
  go_wp2_with fail
  refine (appendNumbers_any B _ b3 _ [iat x.nodes 0] _ (HO3.out.alloc _) (by have := HB3.out; simp at this ⊢; omega) (by have := HL3.out; omega) (nums1 _ _ _) (by simp) (small1 (HSN.out 0 HN0.out)) (HT.out.on (HA3.out.trans ((Gx.refl B w3).alloc HB3.out _)).1)).mono ?_
  rintro e w4 ⟨⟨v4, rfl, ho⟩, hg⟩
  have HO4 : Hid (Own B w4 v4 (b3 ++ numsTo [iat x.nodes 0] [iat x.nodes 0].length)) := ho
  have HG4 : Hid (Gx B w3 w4) := ((Gx.refl B w3).alloc HB3.out _).trans hg
  clear ho hg
  have HA4 : Hid (Gx B w w4) := HA3.out.trans HG4.out
  have HB4 : Hid (B ≤ w4.heap.size) := Nat.le_trans HB3.out HG4.out.1.size
  have HL4 : Hid ((b3 ++ numsTo [iat x.nodes 0] [iat x.nodes 0].length).length ≤ b0.length + 21) := by
    have h1 := HL3.out
    unfold Hid
    have h2 := numsTo_len (small1 (HSN.out 0 HN0.out)) _ (Nat.le_refl [iat x.nodes 0].length)
    rw [List.length_append]
    try simp only [List.length_cons, List.length_nil] at h2 ⊢
    omega
  have BA4 := BA3.keep HG4.out
  generalize hb4 : b3 ++ numsTo [iat x.nodes 0] [iat x.nodes 0].length = b4 at *
  have HE4 : Hid (b3 ++ numsTo [iat x.nodes 0] [iat x.nodes 0].length = b4) := hb4
  clear hb4
  have kk3 := BA4.blk.cell (i := 3) rfl
  go_wp2
  go_loopw [0, 6, 7, 30] (fun o p q i wr => ∃ k : Nat, k ≤ n2 ∧ i = .int .i64 k ∧ Hid (Own B wr o (b4 ++ numsTo (pairs x) (2 * k))) ∧ Hid (Gx B w4 wr)) (fun _ _ _ i _ => n2 - (intOf i).toNat)
  case atStart => exact ⟨0, Nat.zero_le _, rfl, by unfold Hid; rw [show numsTo (pairs x) (2 * 0) = [] from rfl, List.append_nil]; exact HO4.out, Gx.refl _ _⟩
  case round =>
    obtain ⟨k, hkn, rfl, HO, HG⟩ := hrel
    have HGA : Hid (Gx B w wr) := HA4.out.trans HG.out
    have HB : Hid (B ≤ wr.heap.size) := Nat.le_trans HB4.out HG.out.1.size
    have HLL : Hid ((b4 ++ numsTo (pairs x) (2 * k)).length ≤ b0.length + 21 + 1600) := by
      have h1 := HL4.out
      have h2 := numsTo_len (pairs_small HSN.out HSW.out HL12'.out) (2 * k) (by rw [pairs_len, HQ2.out]; omega)
      unfold Hid
      rw [List.length_append]
      omega
    have BR := BA4.keep HG.out
    by_cases hlt : k < n2
    · obtain ⟨b2', off2, h2a, h2c⟩ := cell_of HZW.out HGA.out (k := k) (by rw [HQ2.out]; exact hlt)
      subst h2a
      obtain ⟨b3', off3, h3a, h3c⟩ := cell_of HZN.out HGA.out (k := k + 1) (by rw [HQ1.out, HL12.out]; omega)
      simp only [Option.some.injEq, Addr.mk.injEq] at h3a
      obtain ⟨e3a, e3b, _⟩ := h3a
      rw [← e3a, ← e3b] at h3c
      clear e3a e3b
      have hlt' : (k : Int) < n2 := by omega
      have hltn : (k : Int) + 1 < n1 := by have := HL12.out; omega
      have q2 := BR.blk.cell (i := 2) rfl
      go_wp2_with fail
      refine (appendNumbers_any B _ (b4 ++ numsTo (pairs x) (2 * k)) _ [iat x.weights k, iat x.nodes (k + 1)] _ (HO.out.alloc _) (by have := HB.out; simp; omega) (by have := HLL.out; omega) (nums2 _ _ _ _) (by simp) (small2 (HSW.out k (by rw [HQ2.out]; exact hlt)) (HSN.out (k + 1) (by rw [HQ1.out, HL12.out]; omega))) (HT.out.on (HGA.out.trans ((Gx.refl B wr).alloc HB.out _)).1)).mono ?_
      rintro e wn ⟨⟨vn, rfl, ho⟩, hg⟩
      have HO' : Hid (Own B wn vn (b4 ++ numsTo (pairs x) (2 * (k + 1)))) := by
        unfold Hid
        rw [pairs_step (by rw [HQ2.out]; exact hlt), ← List.append_assoc]
        exact ho
      have HG' : Hid (Gx B w4 wn) := HG.out.trans (((Gx.refl B wr).alloc HB.out _).trans hg)
      clear ho hg
      go_wp2
      go_roundw
      case rel => exact ⟨k + 1, by omega, by go_num, HO', HG'⟩
      case measure => simp [intOf]; omega
    · have ek : n2 = k := by omega
      subst ek
      go_wp2_with (at_builtin; refine wpList_append_own _ rfl _ _ 29 rfl B 5 i0 (.int .u8 0) 1 1 Tryd.underlying29 hi hz0 hz1 hz2 rfl (by decide) _ _ _ rfl (HO.out.alloc _) ⟨wr.heap.size, 0, none⟩ 1 1 [Value.int .u8 ((10 : UInt8).toNat : Int)] rfl rfl ?c1 ?c2 ?c3 ?c4 ?c5 ?_)
      case c1 =>
        intro j u hj
        match j, hj with
        | 0, hj => simp at hj; subst hj; simp [Addr.add]
      case c2 => intro u hu; simp at hu; subst hu; rfl
      case c3 => have := HLL.out; unfold maxLen; omega
      case c4 => have := HLL.out; omega
      case c5 => have := HB.out; simp; omega
      intro v' w' hown' hgrow _
      have HO' : Hid (Own B w' v' (b4 ++ numsTo (pairs x) (2 * n2) ++ [10])) := Own.snoc (by rw [List.length_append]; simpa using hown')
      have HG' : Hid (Gx B w w') := (HGA.out.alloc HB.out _).grown (HO.out.alloc _) hgrow (by have := HB.out; simp; omega)
      clear hown' hgrow
      go_wp2
      go_ret
      exact ⟨⟨_, rfl, by rw [HQ2.out]; have e1 := HE1.out; have e2 := HE2.out; have e3 := HE3.out; have e4 := HE4.out; subst e1 e2 e3 e4; simp only [List.append_assoc] at HO' ⊢; exact HO'.out⟩, HG'.out⟩
end Go.Proofs.YtedhchmigeooiaaDoor
