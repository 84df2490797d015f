import Derived.Test.YtedhchmigeooiaaDoorEnF
namespace Go.Proofs.YtedhchmigeooiaaDoor
open Go.RowKit
set_option linter.unusedVariables false
set_option maxRecDepth 100000

set_option maxHeartbeats 2000000 in
theorem appendRel_no_at (B : Nat) (v0 : Value) (b0 : List UInt8) (x : Rl) (vz : Value) (w : World) (hown : Own B w v0 b0) (hB : B ≤ w.heap.size) (hl : b0.length ≤ 380000) (hz : HNums B w vz x.ways) (hzl : x.ways.length ≤ 100) (hsm : small x.ways)
    (hid : 0 ≤ x.id ∧ x.id ≤ 1048576) (hfr : 0 ≤ x.frm ∧ x.frm ≤ 1048576) (hto : 0 ≤ x.to ∧ x.to ≤ 1048576) (hnd : 0 ≤ x.node ∧ x.node ≤ 1048576) (ht : Tab B w) :
    Calls Tryd.prog 28 #[v0, .agg #[.int .i64 x.id, .bool false, .int .i64 x.frm, .int .i64 x.to, .bool true, .int .i64 x.node, vz]] w fun e w' => (∃ v', e = .returned v' ∧ Own B w' v' (b0 ++ ([110, 111] ++ (numsTo [x.id, x.frm] [x.id, x.frm].length ++ ([32, 97, 116] ++ (numsTo [x.node] [x.node].length ++ (numsTo [x.to] [x.to].length ++ [10])))))))  ∧ Gx B w w' := by
  obtain ⟨i0, hi, hz0, hz1, hz2⟩ := info_parts infoByte
  have HZN : Hid (HNums B w vz x.ways) := hz
  have HSM : Hid (small x.ways) := hsm
  have HT : Hid (Tab B w) := ht
  have HID : Hid ((0 ≤ x.id ∧ x.id ≤ 1048576) ∧ (0 ≤ x.frm ∧ x.frm ≤ 1048576) ∧ (0 ≤ x.to ∧ x.to ≤ 1048576) ∧ (0 ≤ x.node ∧ x.node ≤ 1048576)) := ⟨hid, hfr, hto, hnd⟩
  have HO0 : Hid (Own B (w.alloc (.cells #[.int .i64 x.id, .bool false, .int .i64 x.frm, .int .i64 x.to, .bool true, .int .i64 x.node, vz] 53)) v0 b0) := hown.alloc _
  have HA0 : Hid (Gx B w (w.alloc (.cells #[.int .i64 x.id, .bool false, .int .i64 x.frm, .int .i64 x.to, .bool true, .int .i64 x.node, vz] 53))) := (Gx.refl B w).alloc hB _
  have HB0 : Hid (B ≤ (w.alloc (.cells #[.int .i64 x.id, .bool false, .int .i64 x.frm, .int .i64 x.to, .bool true, .int .i64 x.node, vz] 53)).heap.size) := HA0.out.1.size |> Nat.le_trans hB
  have HL0 : Hid (b0.length ≤ b0.length + 0) := Nat.le_refl _
  have BA0 : BlkN (w.alloc (.cells #[.int .i64 x.id, .bool false, .int .i64 x.frm, .int .i64 x.to, .bool true, .int .i64 x.node, vz] 53)) w.heap.size #[.int .i64 x.id, .bool false, .int .i64 x.frm, .int .i64 x.to, .bool true, .int .i64 x.node, vz] := BlkN.new _ _ _ _ (by decide) rfl
  clear hown hid hfr hto hnd hz hsm ht
  go_enter Tryd.func28, Tryd.ntmps28
  go_wp2_with (at_builtin; refine Lib.wpList_append_own_string _ rfl _ _ 29 9 rfl B 5 i0 Tryd.underlying29 Tryd.underlying9 hi hz0 hz1 hz2 _ _ _ rfl HO0.out ⟨#[110, 111]⟩ rfl ?la1 ?lb1 HB0.out ?_)
  case la1 => have := HL0.out; simp only [ByteArray.size]; unfold maxLen; simp; omega
  case lb1 => have := HL0.out; simp [ByteArray.size]; omega
  intro v1 w1 hown' hgrow _
  have HO1 : Hid (Own B w1 v1 (b0 ++ [110, 111])) := Own.str hown'
  have HG1 : Hid (Gx B (w.alloc (.cells #[.int .i64 x.id, .bool false, .int .i64 x.frm, .int .i64 x.to, .bool true, .int .i64 x.node, vz] 53)) w1) := (Gx.refl B (w.alloc (.cells #[.int .i64 x.id, .bool false, .int .i64 x.frm, .int .i64 x.to, .bool true, .int .i64 x.node, vz] 53))).grown HO0.out hgrow HB0.out
  clear hown' hgrow
  have HA1 : Hid (Gx B w w1) := HA0.out.trans HG1.out
  have HB1 : Hid (B ≤ w1.heap.size) := Nat.le_trans HB0.out HG1.out.1.size
  have HL1 : Hid ((b0 ++ [110, 111]).length ≤ b0.length + 2) := by
    have h1 := HL0.out
    unfold Hid
    simp only [List.length_append, List.length_cons, List.length_nil]
    omega
  have BA1 := BA0.keep HG1.out
  generalize hb1 : b0 ++ [110, 111] = b1 at *
  have HE1 : Hid (b0 ++ [110, 111] = b1) := hb1
  clear hb1
  have kk0 := BA1.blk.cell (i := 0) rfl
  have kk2 := BA1.blk.cell (i := 2) rfl
  go_wp2_with fail
  refine (appendNumbers_any B _ b1 _ [x.id, x.frm] _ (HO1.out.alloc _) (by have := HB1.out; simp at this ⊢; omega) (by have := HL1.out; omega) (nums2 _ _ _ _) (by simp) (small2 HID.out.1 HID.out.2.1) (HT.out.on (HA1.out.trans ((Gx.refl B w1).alloc HB1.out _)).1)).mono ?_
  rintro e w2 ⟨⟨v2, rfl, ho⟩, hg⟩
  have HO2 : Hid (Own B w2 v2 (b1 ++ numsTo [x.id, x.frm] [x.id, x.frm].length)) := ho
  have HG2 : Hid (Gx B w1 w2) := ((Gx.refl B w1).alloc HB1.out _).trans hg
  clear ho hg
  have HA2 : Hid (Gx B w w2) := HA1.out.trans HG2.out
  have HB2 : Hid (B ≤ w2.heap.size) := Nat.le_trans HB1.out HG2.out.1.size
  have HL2 : Hid ((b1 ++ numsTo [x.id, x.frm] [x.id, x.frm].length).length ≤ b0.length + 18) := by
    have h1 := HL1.out
    unfold Hid
    have h2 := numsTo_len (small2 HID.out.1 HID.out.2.1) _ (Nat.le_refl [x.id, x.frm].length)
    rw [List.length_append]
    try simp only [List.length_cons, List.length_nil] at h2 ⊢
    omega
  have BA2 := BA1.keep HG2.out
  generalize hb2 : b1 ++ numsTo [x.id, x.frm] [x.id, x.frm].length = b2 at *
  have HE2 : Hid (b1 ++ numsTo [x.id, x.frm] [x.id, x.frm].length = b2) := hb2
  clear hb2
  have kk4 := BA2.blk.cell (i := 4) rfl
  go_wp2_with (at_builtin; refine Lib.wpList_append_own_string _ rfl _ _ 29 9 rfl B 5 i0 Tryd.underlying29 Tryd.underlying9 hi hz0 hz1 hz2 _ _ _ rfl HO2.out ⟨#[32, 97, 116]⟩ rfl ?la3 ?lb3 HB2.out ?_)
  case la3 => have := HL2.out; simp only [ByteArray.size]; unfold maxLen; simp; omega
  case lb3 => have := HL2.out; simp [ByteArray.size]; omega
  intro v3 w3 hown' hgrow _
  have HO3 : Hid (Own B w3 v3 (b2 ++ [32, 97, 116])) := Own.str hown'
  have HG3 : Hid (Gx B w2 w3) := (Gx.refl B w2).grown HO2.out hgrow HB2.out
  clear hown' hgrow
  have HA3 : Hid (Gx B w w3) := HA2.out.trans HG3.out
  have HB3 : Hid (B ≤ w3.heap.size) := Nat.le_trans HB2.out HG3.out.1.size
  have HL3 : Hid ((b2 ++ [32, 97, 116]).length ≤ b0.length + 21) := by
    have h1 := HL2.out
    unfold Hid
    simp only [List.length_append, List.length_cons, List.length_nil]
    omega
  have BA3 := BA2.keep HG3.out
  generalize hb3 : b2 ++ [32, 97, 116] = b3 at *
  have HE3 : Hid (b2 ++ [32, 97, 116] = b3) := hb3
  clear hb3
  have kk5 := BA3.blk.cell (i := 5) rfl
  go_wp2_with fail
  refine (appendNumbers_any B _ b3 _ [x.node] _ (HO3.out.alloc _) (by have := HB3.out; simp at this ⊢; omega) (by have := HL3.out; omega) (nums1 _ _ _) (by simp) (small1 HID.out.2.2.2) (HT.out.on (HA3.out.trans ((Gx.refl B w3).alloc HB3.out _)).1)).mono ?_
  rintro e w4 ⟨⟨v4, rfl, ho⟩, hg⟩
  have HO4 : Hid (Own B w4 v4 (b3 ++ numsTo [x.node] [x.node].length)) := ho
  have HG4 : Hid (Gx B w3 w4) := ((Gx.refl B w3).alloc HB3.out _).trans hg
  clear ho hg
  have HA4 : Hid (Gx B w w4) := HA3.out.trans HG4.out
  have HB4 : Hid (B ≤ w4.heap.size) := Nat.le_trans HB3.out HG4.out.1.size
  have HL4 : Hid ((b3 ++ numsTo [x.node] [x.node].length).length ≤ b0.length + 29) := by
    have h1 := HL3.out
    unfold Hid
    have h2 := numsTo_len (small1 HID.out.2.2.2) _ (Nat.le_refl [x.node].length)
    rw [List.length_append]
    try simp only [List.length_cons, List.length_nil] at h2 ⊢
    omega
  have BA4 := BA3.keep HG4.out
  generalize hb4 : b3 ++ numsTo [x.node] [x.node].length = b4 at *
  have HE4 : Hid (b3 ++ numsTo [x.node] [x.node].length = b4) := hb4
  clear hb4
  have kk3 := BA4.blk.cell (i := 3) rfl
  go_wp2_with fail
  refine (appendNumbers_any B _ b4 _ [x.to] _ (HO4.out.alloc _) (by have := HB4.out; simp at this ⊢; omega) (by have := HL4.out; omega) (nums1 _ _ _) (by simp) (small1 HID.out.2.2.1) (HT.out.on (HA4.out.trans ((Gx.refl B w4).alloc HB4.out _)).1)).mono ?_
  rintro e w5 ⟨⟨v5, rfl, ho⟩, hg⟩
  have HO5 : Hid (Own B w5 v5 (b4 ++ numsTo [x.to] [x.to].length)) := ho
  have HG5 : Hid (Gx B w4 w5) := ((Gx.refl B w4).alloc HB4.out _).trans hg
  clear ho hg
  have HA5 : Hid (Gx B w w5) := HA4.out.trans HG5.out
  have HB5 : Hid (B ≤ w5.heap.size) := Nat.le_trans HB4.out HG5.out.1.size
  have HL5 : Hid ((b4 ++ numsTo [x.to] [x.to].length).length ≤ b0.length + 37) := by
    have h1 := HL4.out
    unfold Hid
    have h2 := numsTo_len (small1 HID.out.2.2.1) _ (Nat.le_refl [x.to].length)
    rw [List.length_append]
    try simp only [List.length_cons, List.length_nil] at h2 ⊢
    omega
  have BA5 := BA4.keep HG5.out
  generalize hb5 : b4 ++ numsTo [x.to] [x.to].length = b5 at *
  have HE5 : Hid (b4 ++ numsTo [x.to] [x.to].length = b5) := hb5
  clear hb5
  go_wp2_with (at_builtin; refine wpList_append_own _ rfl _ _ 29 rfl B 5 i0 (.int .u8 0) 1 1 Tryd.underlying29 hi hz0 hz1 hz2 rfl (by decide) _ _ _ rfl (HO5.out.alloc _) ⟨w5.heap.size, 0, none⟩ 1 1 [Value.int .u8 ((10 : UInt8).toNat : Int)] rfl rfl ?c1 ?c2 ?c3 ?c4 ?c5 ?_)
  case c1 =>
    intro j u hj
    match j, hj with
    | 0, hj => simp at hj; subst hj; simp [Addr.add]
  case c2 => intro u hu; simp at hu; subst hu; rfl
  case c3 => have := HL5.out; unfold maxLen; omega
  case c4 => have := HL5.out; omega
  case c5 => have := HB5.out; simp; omega
  intro v' w' hown' hgrow _
  have HO' : Hid (Own B w' v' (b5 ++ [10])) := Own.snoc hown'
  have HG' : Hid (Gx B w w') := (HA5.out.alloc HB5.out _).grown (HO5.out.alloc _) hgrow (by have := HB5.out; simp; omega)
  clear hown' hgrow
  go_wp2
  go_ret
  exact ⟨⟨_, rfl, by have e1 := HE1.out; have e2 := HE2.out; have e3 := HE3.out; have e4 := HE4.out; have e5 := HE5.out; subst e1 e2 e3 e4 e5; simp only [List.append_assoc] at HO' ⊢; exact HO'.out⟩, HG'.out⟩

set_option maxHeartbeats 2000000 in
theorem appendRel_only_at (B : Nat) (v0 : Value) (b0 : List UInt8) (x : Rl) (vz : Value) (w : World) (hown : Own B w v0 b0) (hB : B ≤ w.heap.size) (hl : b0.length ≤ 380000) (hz : HNums B w vz x.ways) (hzl : x.ways.length ≤ 100) (hsm : small x.ways)
    (hid : 0 ≤ x.id ∧ x.id ≤ 1048576) (hfr : 0 ≤ x.frm ∧ x.frm ≤ 1048576) (hto : 0 ≤ x.to ∧ x.to ≤ 1048576) (hnd : 0 ≤ x.node ∧ x.node ≤ 1048576) (ht : Tab B w) :
    Calls Tryd.prog 28 #[v0, .agg #[.int .i64 x.id, .bool true, .int .i64 x.frm, .int .i64 x.to, .bool true, .int .i64 x.node, vz]] w fun e w' => (∃ v', e = .returned v' ∧ Own B w' v' (b0 ++ ([111, 110, 108, 121] ++ (numsTo [x.id, x.frm] [x.id, x.frm].length ++ ([32, 97, 116] ++ (numsTo [x.node] [x.node].length ++ (numsTo [x.to] [x.to].length ++ [10])))))))  ∧ Gx B w w' := by
  obtain ⟨i0, hi, hz0, hz1, hz2⟩ := info_parts infoByte
  have HZN : Hid (HNums B w vz x.ways) := hz
  have HSM : Hid (small x.ways) := hsm
  have HT : Hid (Tab B w) := ht
  have HID : Hid ((0 ≤ x.id ∧ x.id ≤ 1048576) ∧ (0 ≤ x.frm ∧ x.frm ≤ 1048576) ∧ (0 ≤ x.to ∧ x.to ≤ 1048576) ∧ (0 ≤ x.node ∧ x.node ≤ 1048576)) := ⟨hid, hfr, hto, hnd⟩
  have HO0 : Hid (Own B (w.alloc (.cells #[.int .i64 x.id, .bool true, .int .i64 x.frm, .int .i64 x.to, .bool true, .int .i64 x.node, vz] 53)) v0 b0) := hown.alloc _
  have HA0 : Hid (Gx B w (w.alloc (.cells #[.int .i64 x.id, .bool true, .int .i64 x.frm, .int .i64 x.to, .bool true, .int .i64 x.node, vz] 53))) := (Gx.refl B w).alloc hB _
  have HB0 : Hid (B ≤ (w.alloc (.cells #[.int .i64 x.id, .bool true, .int .i64 x.frm, .int .i64 x.to, .bool true, .int .i64 x.node, vz] 53)).heap.size) := HA0.out.1.size |> Nat.le_trans hB
  have HL0 : Hid (b0.length ≤ b0.length + 0) := Nat.le_refl _
  have BA0 : BlkN (w.alloc (.cells #[.int .i64 x.id, .bool true, .int .i64 x.frm, .int .i64 x.to, .bool true, .int .i64 x.node, vz] 53)) w.heap.size #[.int .i64 x.id, .bool true, .int .i64 x.frm, .int .i64 x.to, .bool true, .int .i64 x.node, vz] := BlkN.new _ _ _ _ (by decide) rfl
  clear hown hid hfr hto hnd hz hsm ht
  go_enter Tryd.func28, Tryd.ntmps28
  go_wp2_with (at_builtin; refine Lib.wpList_append_own_string _ rfl _ _ 29 9 rfl B 5 i0 Tryd.underlying29 Tryd.underlying9 hi hz0 hz1 hz2 _ _ _ rfl HO0.out ⟨#[111, 110, 108, 121]⟩ rfl ?la1 ?lb1 HB0.out ?_)
  case la1 => have := HL0.out; simp only [ByteArray.size]; unfold maxLen; simp; omega
  case lb1 => have := HL0.out; simp [ByteArray.size]; omega
  intro v1 w1 hown' hgrow _
  have HO1 : Hid (Own B w1 v1 (b0 ++ [111, 110, 108, 121])) := Own.str hown'
  have HG1 : Hid (Gx B (w.alloc (.cells #[.int .i64 x.id, .bool true, .int .i64 x.frm, .int .i64 x.to, .bool true, .int .i64 x.node, vz] 53)) w1) := (Gx.refl B (w.alloc (.cells #[.int .i64 x.id, .bool true, .int .i64 x.frm, .int .i64 x.to, .bool true, .int .i64 x.node, vz] 53))).grown HO0.out hgrow HB0.out
  clear hown' hgrow
  have HA1 : Hid (Gx B w w1) := HA0.out.trans HG1.out
  have HB1 : Hid (B ≤ w1.heap.size) := Nat.le_trans HB0.out HG1.out.1.size
  have HL1 : Hid ((b0 ++ [111, 110, 108, 121]).length ≤ b0.length + 4) := by
    have h1 := HL0.out
    unfold Hid
    simp only [List.length_append, List.length_cons, List.length_nil]
    omega
  have BA1 := BA0.keep HG1.out
  generalize hb1 : b0 ++ [111, 110, 108, 121] = b1 at *
  have HE1 : Hid (b0 ++ [111, 110, 108, 121] = b1) := hb1
  clear hb1
  have kk0 := BA1.blk.cell (i := 0) rfl
  have kk2 := BA1.blk.cell (i := 2) rfl
  go_wp2_with fail
  refine (appendNumbers_any B _ b1 _ [x.id, x.frm] _ (HO1.out.alloc _) (by have := HB1.out; simp at this ⊢; omega) (by have := HL1.out; omega) (nums2 _ _ _ _) (by simp) (small2 HID.out.1 HID.out.2.1) (HT.out.on (HA1.out.trans ((Gx.refl B w1).alloc HB1.out _)).1)).mono ?_
  rintro e w2 ⟨⟨v2, rfl, ho⟩, hg⟩
  have HO2 : Hid (Own B w2 v2 (b1 ++ numsTo [x.id, x.frm] [x.id, x.frm].length)) := ho
  have HG2 : Hid (Gx B w1 w2) := ((Gx.refl B w1).alloc HB1.out _).trans hg
  clear ho hg
  have HA2 : Hid (Gx B w w2) := HA1.out.trans HG2.out
  have HB2 : Hid (B ≤ w2.heap.size) := Nat.le_trans HB1.out HG2.out.1.size
  have HL2 : Hid ((b1 ++ numsTo [x.id, x.frm] [x.id, x.frm].length).length ≤ b0.length + 20) := by
    have h1 := HL1.out
    unfold Hid
    have h2 := numsTo_len (small2 HID.out.1 HID.out.2.1) _ (Nat.le_refl [x.id, x.frm].length)
    rw [List.length_append]
    try simp only [List.length_cons, List.length_nil] at h2 ⊢
    omega
  have BA2 := BA1.keep HG2.out
  generalize hb2 : b1 ++ numsTo [x.id, x.frm] [x.id, x.frm].length = b2 at *
  have HE2 : Hid (b1 ++ numsTo [x.id, x.frm] [x.id, x.frm].length = b2) := hb2
  clear hb2
  have kk4 := BA2.blk.cell (i := 4) rfl
  go_wp2_with (at_builtin; refine Lib.wpList_append_own_string _ rfl _ _ 29 9 rfl B 5 i0 Tryd.underlying29 Tryd.underlying9 hi hz0 hz1 hz2 _ _ _ rfl HO2.out ⟨#[32, 97, 116]⟩ rfl ?la3 ?lb3 HB2.out ?_)
  case la3 => have := HL2.out; simp only [ByteArray.size]; unfold maxLen; simp; omega
  case lb3 => have := HL2.out; simp [ByteArray.size]; omega
  intro v3 w3 hown' hgrow _
  have HO3 : Hid (Own B w3 v3 (b2 ++ [32, 97, 116])) := Own.str hown'
  have HG3 : Hid (Gx B w2 w3) := (Gx.refl B w2).grown HO2.out hgrow HB2.out
  clear hown' hgrow
  have HA3 : Hid (Gx B w w3) := HA2.out.trans HG3.out
  have HB3 : Hid (B ≤ w3.heap.size) := Nat.le_trans HB2.out HG3.out.1.size
  have HL3 : Hid ((b2 ++ [32, 97, 116]).length ≤ b0.length + 23) := by
    have h1 := HL2.out
    unfold Hid
    simp only [List.length_append, List.length_cons, List.length_nil]
    omega
  have BA3 := BA2.keep HG3.out
  generalize hb3 : b2 ++ [32, 97, 116] = b3 at *
  have HE3 : Hid (b2 ++ [32, 97, 116] = b3) := hb3
  clear hb3
  have kk5 := BA3.blk.cell (i := 5) rfl
  go_wp2_with fail
  refine (appendNumbers_any B _ b3 _ [x.node] _ (HO3.out.alloc _) (by have := HB3.out; simp at this ⊢; omega) (by have := HL3.out; omega) (nums1 _ _ _) (by simp) (small1 HID.out.2.2.2) (HT.out.on (HA3.out.trans ((Gx.refl B w3).alloc HB3.out _)).1)).mono ?_
  rintro e w4 ⟨⟨v4, rfl, ho⟩, hg⟩
  have HO4 : Hid (Own B w4 v4 (b3 ++ numsTo [x.node] [x.node].length)) := ho
  have HG4 : Hid (Gx B w3 w4) := ((Gx.refl B w3).alloc HB3.out _).trans hg
  clear ho hg
  have HA4 : Hid (Gx B w w4) := HA3.out.trans HG4.out
  have HB4 : Hid (B ≤ w4.heap.size) := Nat.le_trans HB3.out HG4.out.1.size
  have HL4 : Hid ((b3 ++ numsTo [x.node] [x.node].length).length ≤ b0.length + 31) := by
    have h1 := HL3.out
    unfold Hid
    have h2 := numsTo_len (small1 HID.out.2.2.2) _ (Nat.le_refl [x.node].length)
    rw [List.length_append]
    try simp only [List.length_cons, List.length_nil] at h2 ⊢
    omega
  have BA4 := BA3.keep HG4.out
  generalize hb4 : b3 ++ numsTo [x.node] [x.node].length = b4 at *
  have HE4 : Hid (b3 ++ numsTo [x.node] [x.node].length = b4) := hb4
  clear hb4
  have kk3 := BA4.blk.cell (i := 3) rfl
  go_wp2_with fail
  refine (appendNumbers_any B _ b4 _ [x.to] _ (HO4.out.alloc _) (by have := HB4.out; simp at this ⊢; omega) (by have := HL4.out; omega) (nums1 _ _ _) (by simp) (small1 HID.out.2.2.1) (HT.out.on (HA4.out.trans ((Gx.refl B w4).alloc HB4.out _)).1)).mono ?_
  rintro e w5 ⟨⟨v5, rfl, ho⟩, hg⟩
  have HO5 : Hid (Own B w5 v5 (b4 ++ numsTo [x.to] [x.to].length)) := ho
  have HG5 : Hid (Gx B w4 w5) := ((Gx.refl B w4).alloc HB4.out _).trans hg
  clear ho hg
  have HA5 : Hid (Gx B w w5) := HA4.out.trans HG5.out
  have HB5 : Hid (B ≤ w5.heap.size) := Nat.le_trans HB4.out HG5.out.1.size
  have HL5 : Hid ((b4 ++ numsTo [x.to] [x.to].length).length ≤ b0.length + 39) := by
    have h1 := HL4.out
    unfold Hid
    have h2 := numsTo_len (small1 HID.out.2.2.1) _ (Nat.le_refl [x.to].length)
    rw [List.length_append]
    try simp only [List.length_cons, List.length_nil] at h2 ⊢
    omega
  have BA5 := BA4.keep HG5.out
  generalize hb5 : b4 ++ numsTo [x.to] [x.to].length = b5 at *
  have HE5 : Hid (b4 ++ numsTo [x.to] [x.to].length = b5) := hb5
  clear hb5
  go_wp2_with (at_builtin; refine wpList_append_own _ rfl _ _ 29 rfl B 5 i0 (.int .u8 0) 1 1 Tryd.underlying29 hi hz0 hz1 hz2 rfl (by decide) _ _ _ rfl (HO5.out.alloc _) ⟨w5.heap.size, 0, none⟩ 1 1 [Value.int .u8 ((10 : UInt8).toNat : Int)] rfl rfl ?c1 ?c2 ?c3 ?c4 ?c5 ?_)
  case c1 =>
    intro j u hj
    match j, hj with
    | 0, hj => simp at hj; subst hj; simp [Addr.add]
  case c2 => intro u hu; simp at hu; subst hu; rfl
  case c3 => have := HL5.out; unfold maxLen; omega
  case c4 => have := HL5.out; omega
  case c5 => have := HB5.out; simp; omega
  intro v' w' hown' hgrow _
  have HO' : Hid (Own B w' v' (b5 ++ [10])) := Own.snoc hown'
  have HG' : Hid (Gx B w w') := (HA5.out.alloc HB5.out _).grown (HO5.out.alloc _) hgrow (by have := HB5.out; simp; omega)
  clear hown' hgrow
  go_wp2
  go_ret
  exact ⟨⟨_, rfl, by have e1 := HE1.out; have e2 := HE2.out; have e3 := HE3.out; have e4 := HE4.out; have e5 := HE5.out; subst e1 e2 e3 e4 e5; simp only [List.append_assoc] at HO' ⊢; exact HO'.out⟩, HG'.out⟩

set_option maxHeartbeats 2000000 in
theorem appendRel_no_by (B : Nat) (v0 : Value) (b0 : List UInt8) (x : Rl) (vz : Value) (w : World) (hown : Own B w v0 b0) (hB : B ≤ w.heap.size) (hl : b0.length ≤ 380000) (hz : HNums B w vz x.ways) (hzl : x.ways.length ≤ 100) (hsm : small x.ways)
    (hid : 0 ≤ x.id ∧ x.id ≤ 1048576) (hfr : 0 ≤ x.frm ∧ x.frm ≤ 1048576) (hto : 0 ≤ x.to ∧ x.to ≤ 1048576) (hnd : 0 ≤ x.node ∧ x.node ≤ 1048576) (ht : Tab B w) :
    Calls Tryd.prog 28 #[v0, .agg #[.int .i64 x.id, .bool false, .int .i64 x.frm, .int .i64 x.to, .bool false, .int .i64 x.node, vz]] w fun e w' => (∃ v', e = .returned v' ∧ Own B w' v' (b0 ++ ([110, 111] ++ (numsTo [x.id, x.frm] [x.id, x.frm].length ++ ([32, 98, 121] ++ (numsTo x.ways x.ways.length ++ (numsTo [x.to] [x.to].length ++ [10])))))))  ∧ Gx B w w' := by
  obtain ⟨i0, hi, hz0, hz1, hz2⟩ := info_parts infoByte
  have HZN : Hid (HNums B w vz x.ways) := hz
  have HSM : Hid (small x.ways) := hsm
  have HT : Hid (Tab B w) := ht
  have HID : Hid ((0 ≤ x.id ∧ x.id ≤ 1048576) ∧ (0 ≤ x.frm ∧ x.frm ≤ 1048576) ∧ (0 ≤ x.to ∧ x.to ≤ 1048576) ∧ (0 ≤ x.node ∧ x.node ≤ 1048576)) := ⟨hid, hfr, hto, hnd⟩
  have HO0 : Hid (Own B (w.alloc (.cells #[.int .i64 x.id, .bool false, .int .i64 x.frm, .int .i64 x.to, .bool false, .int .i64 x.node, vz] 53)) v0 b0) := hown.alloc _
  have HA0 : Hid (Gx B w (w.alloc (.cells #[.int .i64 x.id, .bool false, .int .i64 x.frm, .int .i64 x.to, .bool false, .int .i64 x.node, vz] 53))) := (Gx.refl B w).alloc hB _
  have HB0 : Hid (B ≤ (w.alloc (.cells #[.int .i64 x.id, .bool false, .int .i64 x.frm, .int .i64 x.to, .bool false, .int .i64 x.node, vz] 53)).heap.size) := HA0.out.1.size |> Nat.le_trans hB
  have HL0 : Hid (b0.length ≤ b0.length + 0) := Nat.le_refl _
  have BA0 : BlkN (w.alloc (.cells #[.int .i64 x.id, .bool false, .int .i64 x.frm, .int .i64 x.to, .bool false, .int .i64 x.node, vz] 53)) w.heap.size #[.int .i64 x.id, .bool false, .int .i64 x.frm, .int .i64 x.to, .bool false, .int .i64 x.node, vz] := BlkN.new _ _ _ _ (by decide) rfl
  clear hown hid hfr hto hnd hz hsm ht
  go_enter Tryd.func28, Tryd.ntmps28
  go_wp2_with (at_builtin; refine Lib.wpList_append_own_string _ rfl _ _ 29 9 rfl B 5 i0 Tryd.underlying29 Tryd.underlying9 hi hz0 hz1 hz2 _ _ _ rfl HO0.out ⟨#[110, 111]⟩ rfl ?la1 ?lb1 HB0.out ?_)
  case la1 => have := HL0.out; simp only [ByteArray.size]; unfold maxLen; simp; omega
  case lb1 => have := HL0.out; simp [ByteArray.size]; omega
  intro v1 w1 hown' hgrow _
  have HO1 : Hid (Own B w1 v1 (b0 ++ [110, 111])) := Own.str hown'
  have HG1 : Hid (Gx B (w.alloc (.cells #[.int .i64 x.id, .bool false, .int .i64 x.frm, .int .i64 x.to, .bool false, .int .i64 x.node, vz] 53)) w1) := (Gx.refl B (w.alloc (.cells #[.int .i64 x.id, .bool false, .int .i64 x.frm, .int .i64 x.to, .bool false, .int .i64 x.node, vz] 53))).grown HO0.out hgrow HB0.out
  clear hown' hgrow
  have HA1 : Hid (Gx B w w1) := HA0.out.trans HG1.out
  have HB1 : Hid (B ≤ w1.heap.size) := Nat.le_trans HB0.out HG1.out.1.size
  have HL1 : Hid ((b0 ++ [110, 111]).length ≤ b0.length + 2) := by
    have h1 := HL0.out
    unfold Hid
    simp only [List.length_append, List.length_cons, List.length_nil]
    omega
  have BA1 := BA0.keep HG1.out
  generalize hb1 : b0 ++ [110, 111] = b1 at *
  have HE1 : Hid (b0 ++ [110, 111] = b1) := hb1
  clear hb1
  have kk0 := BA1.blk.cell (i := 0) rfl
  have kk2 := BA1.blk.cell (i := 2) rfl
  go_wp2_with fail
  refine (appendNumbers_any B _ b1 _ [x.id, x.frm] _ (HO1.out.alloc _) (by have := HB1.out; simp at this ⊢; omega) (by have := HL1.out; omega) (nums2 _ _ _ _) (by simp) (small2 HID.out.1 HID.out.2.1) (HT.out.on (HA1.out.trans ((Gx.refl B w1).alloc HB1.out _)).1)).mono ?_
  rintro e w2 ⟨⟨v2, rfl, ho⟩, hg⟩
  have HO2 : Hid (Own B w2 v2 (b1 ++ numsTo [x.id, x.frm] [x.id, x.frm].length)) := ho
  have HG2 : Hid (Gx B w1 w2) := ((Gx.refl B w1).alloc HB1.out _).trans hg
  clear ho hg
  have HA2 : Hid (Gx B w w2) := HA1.out.trans HG2.out
  have HB2 : Hid (B ≤ w2.heap.size) := Nat.le_trans HB1.out HG2.out.1.size
  have HL2 : Hid ((b1 ++ numsTo [x.id, x.frm] [x.id, x.frm].length).length ≤ b0.length + 18) := by
    have h1 := HL1.out
    unfold Hid
    have h2 := numsTo_len (small2 HID.out.1 HID.out.2.1) _ (Nat.le_refl [x.id, x.frm].length)
    rw [List.length_append]
    try simp only [List.length_cons, List.length_nil] at h2 ⊢
    omega
  have BA2 := BA1.keep HG2.out
  generalize hb2 : b1 ++ numsTo [x.id, x.frm] [x.id, x.frm].length = b2 at *
  have HE2 : Hid (b1 ++ numsTo [x.id, x.frm] [x.id, x.frm].length = b2) := hb2
  clear hb2
  have kk4 := BA2.blk.cell (i := 4) rfl
  go_wp2_with (at_builtin; refine Lib.wpList_append_own_string _ rfl _ _ 29 9 rfl B 5 i0 Tryd.underlying29 Tryd.underlying9 hi hz0 hz1 hz2 _ _ _ rfl HO2.out ⟨#[32, 98, 121]⟩ rfl ?la3 ?lb3 HB2.out ?_)
  case la3 => have := HL2.out; simp only [ByteArray.size]; unfold maxLen; simp; omega
  case lb3 => have := HL2.out; simp [ByteArray.size]; omega
  intro v3 w3 hown' hgrow _
  have HO3 : Hid (Own B w3 v3 (b2 ++ [32, 98, 121])) := Own.str hown'
  have HG3 : Hid (Gx B w2 w3) := (Gx.refl B w2).grown HO2.out hgrow HB2.out
  clear hown' hgrow
  have HA3 : Hid (Gx B w w3) := HA2.out.trans HG3.out
  have HB3 : Hid (B ≤ w3.heap.size) := Nat.le_trans HB2.out HG3.out.1.size
  have HL3 : Hid ((b2 ++ [32, 98, 121]).length ≤ b0.length + 21) := by
    have h1 := HL2.out
    unfold Hid
    simp only [List.length_append, List.length_cons, List.length_nil]
    omega
  have BA3 := BA2.keep HG3.out
  generalize hb3 : b2 ++ [32, 98, 121] = b3 at *
  have HE3 : Hid (b2 ++ [32, 98, 121] = b3) := hb3
  clear hb3
  have kk6 := BA3.blk.cell (i := 6) rfl
  go_wp2_with fail
  refine (appendNumbers_any B _ b3 _ x.ways _ HO3.out HB3.out (by have := HL3.out; omega) (HZN.out.keep HA3.out) (by omega) HSM.out (HT.out.on (HA3.out.trans (Gx.refl B w3)).1)).mono ?_
  rintro e w4 ⟨⟨v4, rfl, ho⟩, hg⟩
  have HO4 : Hid (Own B w4 v4 (b3 ++ numsTo x.ways x.ways.length)) := ho
  have HG4 : Hid (Gx B w3 w4) := (Gx.refl B w3).trans hg
  clear ho hg
  have HA4 : Hid (Gx B w w4) := HA3.out.trans HG4.out
  have HB4 : Hid (B ≤ w4.heap.size) := Nat.le_trans HB3.out HG4.out.1.size
  have HL4 : Hid ((b3 ++ numsTo x.ways x.ways.length).length ≤ b0.length + 821) := by
    have h1 := HL3.out
    unfold Hid
    have h2 := numsTo_len HSM.out _ (Nat.le_refl x.ways.length)
    rw [List.length_append]
    try simp only [List.length_cons, List.length_nil] at h2 ⊢
    omega
  have BA4 := BA3.keep HG4.out
  generalize hb4 : b3 ++ numsTo x.ways x.ways.length = b4 at *
  have HE4 : Hid (b3 ++ numsTo x.ways x.ways.length = b4) := hb4
  clear hb4
  have kk3 := BA4.blk.cell (i := 3) rfl
  go_wp2_with fail
  refine (appendNumbers_any B _ b4 _ [x.to] _ (HO4.out.alloc _) (by have := HB4.out; simp at this ⊢; omega) (by have := HL4.out; omega) (nums1 _ _ _) (by simp) (small1 HID.out.2.2.1) (HT.out.on (HA4.out.trans ((Gx.refl B w4).alloc HB4.out _)).1)).mono ?_
  rintro e w5 ⟨⟨v5, rfl, ho⟩, hg⟩
  have HO5 : Hid (Own B w5 v5 (b4 ++ numsTo [x.to] [x.to].length)) := ho
  have HG5 : Hid (Gx B w4 w5) := ((Gx.refl B w4).alloc HB4.out _).trans hg
  clear ho hg
  have HA5 : Hid (Gx B w w5) := HA4.out.trans HG5.out
  have HB5 : Hid (B ≤ w5.heap.size) := Nat.le_trans HB4.out HG5.out.1.size
  have HL5 : Hid ((b4 ++ numsTo [x.to] [x.to].length).length ≤ b0.length + 829) := by
    have h1 := HL4.out
    unfold Hid
    have h2 := numsTo_len (small1 HID.out.2.2.1) _ (Nat.le_refl [x.to].length)
    rw [List.length_append]
    try simp only [List.length_cons, List.length_nil] at h2 ⊢
    omega
  have BA5 := BA4.keep HG5.out
  generalize hb5 : b4 ++ numsTo [x.to] [x.to].length = b5 at *
  have HE5 : Hid (b4 ++ numsTo [x.to] [x.to].length = b5) := hb5
  clear hb5
  go_wp2_with (at_builtin; refine wpList_append_own _ rfl _ _ 29 rfl B 5 i0 (.int .u8 0) 1 1 Tryd.underlying29 hi hz0 hz1 hz2 rfl (by decide) _ _ _ rfl (HO5.out.alloc _) ⟨w5.heap.size, 0, none⟩ 1 1 [Value.int .u8 ((10 : UInt8).toNat : Int)] rfl rfl ?c1 ?c2 ?c3 ?c4 ?c5 ?_)
  case c1 =>
    intro j u hj
    match j, hj with
    | 0, hj => simp at hj; subst hj; simp [Addr.add]
  case c2 => intro u hu; simp at hu; subst hu; rfl
  case c3 => have := HL5.out; unfold maxLen; omega
  case c4 => have := HL5.out; omega
  case c5 => have := HB5.out; simp; omega
  intro v' w' hown' hgrow _
  have HO' : Hid (Own B w' v' (b5 ++ [10])) := Own.snoc hown'
  have HG' : Hid (Gx B w w') := (HA5.out.alloc HB5.out _).grown (HO5.out.alloc _) hgrow (by have := HB5.out; simp; omega)
  clear hown' hgrow
  go_wp2
  go_ret
  exact ⟨⟨_, rfl, by have e1 := HE1.out; have e2 := HE2.out; have e3 := HE3.out; have e4 := HE4.out; have e5 := HE5.out; subst e1 e2 e3 e4 e5; simp only [List.append_assoc] at HO' ⊢; exact HO'.out⟩, HG'.out⟩

set_option maxHeartbeats 2000000 in
theorem appendRel_only_by (B : Nat) (v0 : Value) (b0 : List UInt8) (x : Rl) (vz : Value) (w : World) (hown : Own B w v0 b0) (hB : B ≤ w.heap.size) (hl : b0.length ≤ 380000) (hz : HNums B w vz x.ways) (hzl : x.ways.length ≤ 100) (hsm : small x.ways)
    (hid : 0 ≤ x.id ∧ x.id ≤ 1048576) (hfr : 0 ≤ x.frm ∧ x.frm ≤ 1048576) (hto : 0 ≤ x.to ∧ x.to ≤ 1048576) (hnd : 0 ≤ x.node ∧ x.node ≤ 1048576) (ht : Tab B w) :
    Calls Tryd.prog 28 #[v0, .agg #[.int .i64 x.id, .bool true, .int .i64 x.frm, .int .i64 x.to, .bool false, .int .i64 x.node, vz]] w fun e w' => (∃ v', e = .returned v' ∧ Own B w' v' (b0 ++ ([111, 110, 108, 121] ++ (numsTo [x.id, x.frm] [x.id, x.frm].length ++ ([32, 98, 121] ++ (numsTo x.ways x.ways.length ++ (numsTo [x.to] [x.to].length ++ [10])))))))  ∧ Gx B w w' := by
  obtain ⟨i0, hi, hz0, hz1, hz2⟩ := info_parts infoByte
  have HZN : Hid (HNums B w vz x.ways) := hz
  have HSM : Hid (small x.ways) := hsm
  have HT : Hid (Tab B w) := ht
  have HID : Hid ((0 ≤ x.id ∧ x.id ≤ 1048576) ∧ (0 ≤ x.frm ∧ x.frm ≤ 1048576) ∧ (0 ≤ x.to ∧ x.to ≤ 1048576) ∧ (0 ≤ x.node ∧ x.node ≤ 1048576)) := ⟨hid, hfr, hto, hnd⟩
  have HO0 : Hid (Own B (w.alloc (.cells #[.int .i64 x.id, .bool true, .int .i64 x.frm, .int .i64 x.to, .bool false, .int .i64 x.node, vz] 53)) v0 b0) := hown.alloc _
  have HA0 : Hid (Gx B w (w.alloc (.cells #[.int .i64 x.id, .bool true, .int .i64 x.frm, .int .i64 x.to, .bool false, .int .i64 x.node, vz] 53))) := (Gx.refl B w).alloc hB _
  have HB0 : Hid (B ≤ (w.alloc (.cells #[.int .i64 x.id, .bool true, .int .i64 x.frm, .int .i64 x.to, .bool false, .int .i64 x.node, vz] 53)).heap.size) := HA0.out.1.size |> Nat.le_trans hB
  have HL0 : Hid (b0.length ≤ b0.length + 0) := Nat.le_refl _
  have BA0 : BlkN (w.alloc (.cells #[.int .i64 x.id, .bool true, .int .i64 x.frm, .int .i64 x.to, .bool false, .int .i64 x.node, vz] 53)) w.heap.size #[.int .i64 x.id, .bool true, .int .i64 x.frm, .int .i64 x.to, .bool false, .int .i64 x.node, vz] := BlkN.new _ _ _ _ (by decide) rfl
  clear hown hid hfr hto hnd hz hsm ht
  go_enter Tryd.func28, Tryd.ntmps28
  go_wp2_with (at_builtin; refine Lib.wpList_append_own_string _ rfl _ _ 29 9 rfl B 5 i0 Tryd.underlying29 Tryd.underlying9 hi hz0 hz1 hz2 _ _ _ rfl HO0.out ⟨#[111, 110, 108, 121]⟩ rfl ?la1 ?lb1 HB0.out ?_)
  case la1 => have := HL0.out; simp only [ByteArray.size]; unfold maxLen; simp; omega
  case lb1 => have := HL0.out; simp [ByteArray.size]; omega
  intro v1 w1 hown' hgrow _
  have HO1 : Hid (Own B w1 v1 (b0 ++ [111, 110, 108, 121])) := Own.str hown'
  have HG1 : Hid (Gx B (w.alloc (.cells #[.int .i64 x.id, .bool true, .int .i64 x.frm, .int .i64 x.to, .bool false, .int .i64 x.node, vz] 53)) w1) := (Gx.refl B (w.alloc (.cells #[.int .i64 x.id, .bool true, .int .i64 x.frm, .int .i64 x.to, .bool false, .int .i64 x.node, vz] 53))).grown HO0.out hgrow HB0.out
  clear hown' hgrow
  have HA1 : Hid (Gx B w w1) := HA0.out.trans HG1.out
  have HB1 : Hid (B ≤ w1.heap.size) := Nat.le_trans HB0.out HG1.out.1.size
  have HL1 : Hid ((b0 ++ [111, 110, 108, 121]).length ≤ b0.length + 4) := by
    have h1 := HL0.out
    unfold Hid
    simp only [List.length_append, List.length_cons, List.length_nil]
    omega
  have BA1 := BA0.keep HG1.out
  generalize hb1 : b0 ++ [111, 110, 108, 121] = b1 at *
  have HE1 : Hid (b0 ++ [111, 110, 108, 121] = b1) := hb1
  clear hb1
  have kk0 := BA1.blk.cell (i := 0) rfl
  have kk2 := BA1.blk.cell (i := 2) rfl
  go_wp2_with fail
  refine (appendNumbers_any B _ b1 _ [x.id, x.frm] _ (HO1.out.alloc _) (by have := HB1.out; simp at this ⊢; omega) (by have := HL1.out; omega) (nums2 _ _ _ _) (by simp) (small2 HID.out.1 HID.out.2.1) (HT.out.on (HA1.out.trans ((Gx.refl B w1).alloc HB1.out _)).1)).mono ?_
  rintro e w2 ⟨⟨v2, rfl, ho⟩, hg⟩
  have HO2 : Hid (Own B w2 v2 (b1 ++ numsTo [x.id, x.frm] [x.id, x.frm].length)) := ho
  have HG2 : Hid (Gx B w1 w2) := ((Gx.refl B w1).alloc HB1.out _).trans hg
  clear ho hg
  have HA2 : Hid (Gx B w w2) := HA1.out.trans HG2.out
  have HB2 : Hid (B ≤ w2.heap.size) := Nat.le_trans HB1.out HG2.out.1.size
  have HL2 : Hid ((b1 ++ numsTo [x.id, x.frm] [x.id, x.frm].length).length ≤ b0.length + 20) := by
    have h1 := HL1.out
    unfold Hid
    have h2 := numsTo_len (small2 HID.out.1 HID.out.2.1) _ (Nat.le_refl [x.id, x.frm].length)
    rw [List.length_append]
    try simp only [List.length_cons, List.length_nil] at h2 ⊢
    omega
  have BA2 := BA1.keep HG2.out
  generalize hb2 : b1 ++ numsTo [x.id, x.frm] [x.id, x.frm].length = b2 at *
  have HE2 : Hid (b1 ++ numsTo [x.id, x.frm] [x.id, x.frm].length = b2) := hb2
  clear hb2
  have kk4 := BA2.blk.cell (i := 4) rfl
  go_wp2_with (at_builtin; refine Lib.wpList_append_own_string _ rfl _ _ 29 9 rfl B 5 i0 Tryd.underlying29 Tryd.underlying9 hi hz0 hz1 hz2 _ _ _ rfl HO2.out ⟨#[32, 98, 121]⟩ rfl ?la3 ?lb3 HB2.out ?_)
  case la3 => have := HL2.out; simp only [ByteArray.size]; unfold maxLen; simp; omega
  case lb3 => have := HL2.out; simp [ByteArray.size]; omega
  intro v3 w3 hown' hgrow _
  have HO3 : Hid (Own B w3 v3 (b2 ++ [32, 98, 121])) := Own.str hown'
  have HG3 : Hid (Gx B w2 w3) := (Gx.refl B w2).grown HO2.out hgrow HB2.out
  clear hown' hgrow
  have HA3 : Hid (Gx B w w3) := HA2.out.trans HG3.out
  have HB3 : Hid (B ≤ w3.heap.size) := Nat.le_trans HB2.out HG3.out.1.size
  have HL3 : Hid ((b2 ++ [32, 98, 121]).length ≤ b0.length + 23) := by
    have h1 := HL2.out
    unfold Hid
    simp only [List.length_append, List.length_cons, List.length_nil]
    omega
  have BA3 := BA2.keep HG3.out
  generalize hb3 : b2 ++ [32, 98, 121] = b3 at *
  have HE3 : Hid (b2 ++ [32, 98, 121] = b3) := hb3
  clear hb3
  have kk6 := BA3.blk.cell (i := 6) rfl
  go_wp2_with fail
  refine (appendNumbers_any B _ b3 _ x.ways _ HO3.out HB3.out (by have := HL3.out; omega) (HZN.out.keep HA3.out) (by omega) HSM.out (HT.out.on (HA3.out.trans (Gx.refl B w3)).1)).mono ?_
  rintro e w4 ⟨⟨v4, rfl, ho⟩, hg⟩
  have HO4 : Hid (Own B w4 v4 (b3 ++ numsTo x.ways x.ways.length)) := ho
  have HG4 : Hid (Gx B w3 w4) := (Gx.refl B w3).trans hg
  clear ho hg
  have HA4 : Hid (Gx B w w4) := HA3.out.trans HG4.out
  have HB4 : Hid (B ≤ w4.heap.size) := Nat.le_trans HB3.out HG4.out.1.size
  have HL4 : Hid ((b3 ++ numsTo x.ways x.ways.length).length ≤ b0.length + 823) := by
    have h1 := HL3.out
    unfold Hid
    have h2 := numsTo_len HSM.out _ (Nat.le_refl x.ways.length)
    rw [List.length_append]
    try simp only [List.length_cons, List.length_nil] at h2 ⊢
    omega
  have BA4 := BA3.keep HG4.out
  generalize hb4 : b3 ++ numsTo x.ways x.ways.length = b4 at *
  have HE4 : Hid (b3 ++ numsTo x.ways x.ways.length = b4) := hb4
  clear hb4
  have kk3 := BA4.blk.cell (i := 3) rfl
  go_wp2_with fail
  refine (appendNumbers_any B _ b4 _ [x.to] _ (HO4.out.alloc _) (by have := HB4.out; simp at this ⊢; omega) (by have := HL4.out; omega) (nums1 _ _ _) (by simp) (small1 HID.out.2.2.1) (HT.out.on (HA4.out.trans ((Gx.refl B w4).alloc HB4.out _)).1)).mono ?_
  rintro e w5 ⟨⟨v5, rfl, ho⟩, hg⟩
  have HO5 : Hid (Own B w5 v5 (b4 ++ numsTo [x.to] [x.to].length)) := ho
  have HG5 : Hid (Gx B w4 w5) := ((Gx.refl B w4).alloc HB4.out _).trans hg
  clear ho hg
  have HA5 : Hid (Gx B w w5) := HA4.out.trans HG5.out
  have HB5 : Hid (B ≤ w5.heap.size) := Nat.le_trans HB4.out HG5.out.1.size
  have HL5 : Hid ((b4 ++ numsTo [x.to] [x.to].length).length ≤ b0.length + 831) := by
    have h1 := HL4.out
    unfold Hid
    have h2 := numsTo_len (small1 HID.out.2.2.1) _ (Nat.le_refl [x.to].length)
    rw [List.length_append]
    try simp only [List.length_cons, List.length_nil] at h2 ⊢
    omega
  have BA5 := BA4.keep HG5.out
  generalize hb5 : b4 ++ numsTo [x.to] [x.to].length = b5 at *
  have HE5 : Hid (b4 ++ numsTo [x.to] [x.to].length = b5) := hb5
  clear hb5
  go_wp2_with (at_builtin; refine wpList_append_own _ rfl _ _ 29 rfl B 5 i0 (.int .u8 0) 1 1 Tryd.underlying29 hi hz0 hz1 hz2 rfl (by decide) _ _ _ rfl (HO5.out.alloc _) ⟨w5.heap.size, 0, none⟩ 1 1 [Value.int .u8 ((10 : UInt8).toNat : Int)] rfl rfl ?c1 ?c2 ?c3 ?c4 ?c5 ?_)
  case c1 =>
    intro j u hj
    match j, hj with
    | 0, hj => simp at hj; subst hj; simp [Addr.add]
  case c2 => intro u hu; simp at hu; subst hu; rfl
  case c3 => have := HL5.out; unfold maxLen; omega
  case c4 => have := HL5.out; omega
  case c5 => have := HB5.out; simp; omega
  intro v' w' hown' hgrow _
  have HO' : Hid (Own B w' v' (b5 ++ [10])) := Own.snoc hown'
  have HG' : Hid (Gx B w w') := (HA5.out.alloc HB5.out _).grown (HO5.out.alloc _) hgrow (by have := HB5.out; simp; omega)
  clear hown' hgrow
  go_wp2
  go_ret
  exact ⟨⟨_, rfl, by have e1 := HE1.out; have e2 := HE2.out; have e3 := HE3.out; have e4 := HE4.out; have e5 := HE5.out; subst e1 e2 e3 e4 e5; simp only [List.append_assoc] at HO' ⊢; exact HO'.out⟩, HG'.out⟩
end Go.Proofs.YtedhchmigeooiaaDoor
