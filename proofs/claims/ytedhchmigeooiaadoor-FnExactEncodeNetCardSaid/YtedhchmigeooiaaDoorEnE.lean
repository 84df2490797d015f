import Derived.Test.YtedhchmigeooiaaDoorEnD
import Derived.Lib.AppendStr
namespace Go.Proofs.YtedhchmigeooiaaDoor
open Go.RowKit
set_option linter.unusedVariables false
set_option maxRecDepth 100000

theorem Own.str {B : Nat} {w : World} {v : Value} {bs : List UInt8} {s : ByteArray} (h : w.ownsRow B 5 1 v (bs.length + s.size) (Lib.byteCells bs ++ Lib.strCells s)) : Own B w v (bs ++ s.data.toList) := by
  unfold Own
  rw [List.length_append, Lib.byteCells_append, ← Lib.strCells_eq]
  have e : s.data.toList.length = s.size := by simp
  rw [e]
  exact h

set_option maxHeartbeats 1000000 in
theorem appendLine_any (B : Nat) (v : Value) (bs : List UInt8) (s : ByteArray) (vz : Value) (zs : List Int) (w : World) (hown : Own B w v bs) (hB : B ≤ w.heap.size) (hl : bs.length ≤ 390000) (hs : s.size ≤ 100) (hz : HNums B w vz zs) (hzl : zs.length ≤ 1000) (hsm : small zs) (ht : Tab B w) :
    Calls Tryd.prog 26 #[v, .string s, vz] w fun e w' => (∃ v', e = .returned v' ∧ Own B w' v' (bs ++ s.data.toList ++ numsTo zs zs.length ++ [10])) ∧ Gx B w w' := by
  obtain ⟨i0, hi, hz0, hz1, hz2⟩ := info_parts infoByte
  have HZN : Hid (HNums B w vz zs) := hz
  have HSM : Hid (small zs) := hsm
  have HT : Hid (Tab B w) := ht
  have HNL : Hid ((numsTo zs zs.length).length ≤ 8 * zs.length) := numsTo_len hsm _ (Nat.le_refl _)
  have hsl : s.data.toList.length = s.size := by simp
  have HSL : Hid (s.data.toList.length = s.size) := hsl
  clear hsm ht hz hsl
  go_enter Tryd.func26, Tryd.ntmps26
  go_wp2_with (at_builtin; refine Lib.wpList_append_own_string _ rfl _ _ 29 9 rfl B 5 i0 Tryd.underlying29 Tryd.underlying9 hi hz0 hz1 hz2 _ _ _ rfl hown s rfl ?l1 ?l2 hB ?_)
  case l1 => unfold maxLen; omega
  case l2 => omega
  · intro v1 w1 hown' hgrow _
    have HO1 : Hid (Own B w1 v1 (bs ++ s.data.toList)) := Own.str hown'
    have HG1 : Hid (Gx B w w1) := (Gx.refl B w).grown hown hgrow hB
    have HB1 : Hid (B ≤ w1.heap.size) := Nat.le_trans hB HG1.out.1.size
    have HL1 : Hid ((bs ++ s.data.toList).length ≤ 390100) := by unfold Hid; rw [List.length_append, HSL.out]; omega
    clear hown' hgrow
    go_wp2_with fail
    refine (appendNumbers_any B _ (bs ++ s.data.toList) _ zs _ HO1.out HB1.out (by have := HL1.out; omega) (HZN.out.keep HG1.out) hzl HSM.out (HT.out.on HG1.out.1)).mono ?_
    rintro e w2 ⟨⟨v2, rfl, ho⟩, hg⟩
    have HO2 : Hid (Own B w2 v2 (bs ++ s.data.toList ++ numsTo zs zs.length)) := ho
    have HG2 : Hid (Gx B w w2) := HG1.out.trans hg
    have HB2 : Hid (B ≤ w2.heap.size) := Nat.le_trans hB HG2.out.1.size
    have HL2 : Hid ((bs ++ s.data.toList ++ numsTo zs zs.length).length ≤ 400000) := by
      have h1 := HL1.out
      have h2 := HNL.out
      unfold Hid
      rw [List.length_append]
      omega
    clear ho hg
    generalize hb2 : bs ++ s.data.toList ++ numsTo zs zs.length = b2 at *
    have HE : Hid (bs ++ s.data.toList ++ numsTo zs zs.length = b2) := hb2
    clear hb2
    go_wp2_with (at_builtin; refine wpList_append_own _ rfl _ _ 29 rfl B 5 i0 (.int .u8 0) 1 1 Tryd.underlying29 hi hz0 hz1 hz2 rfl (by decide) _ _ _ rfl (HO2.out.alloc _) ⟨w2.heap.size, 0, none⟩ 1 1 [Value.int .u8 ((10 : UInt8).toNat : Int)] rfl rfl ?c1 ?c2 ?c3 ?c4 ?c5 ?_)
    case c1 =>
      intro j u hj
      match j, hj with
      | 0, hj => simp at hj; subst hj; simp [Addr.add]
    case c2 => intro u hu; simp at hu; subst hu; rfl
    case c3 => have := HL2.out; unfold maxLen; omega
    case c4 => have := HL2.out; omega
    case c5 => have := HB2.out; simp; omega
    · intro v' w' hown' hgrow _
      have HO' : Hid (Own B w' v' (b2 ++ [10])) := Own.snoc hown'
      have HG' : Hid (Gx B w w') := (HG2.out.alloc HB2.out _).grown (HO2.out.alloc _) hgrow (by have := HB2.out; simp; omega)
      clear hown' hgrow
      go_wp2
      go_ret
      exact ⟨⟨_, rfl, by rw [HE.out]; exact HO'.out⟩, HG'.out⟩
end Go.Proofs.YtedhchmigeooiaaDoor
