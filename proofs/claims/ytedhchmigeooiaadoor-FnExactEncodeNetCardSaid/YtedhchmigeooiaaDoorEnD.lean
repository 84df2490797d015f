import Derived.Test.YtedhchmigeooiaaDoorEnA
import Derived.Test.YtedhchmigeooiaaDoorShelf
import Derived.Lib.AppendIntMem
import Derived.Lib.ItoaLen
namespace Go.Proofs.YtedhchmigeooiaaDoor
open Go.RowKit
set_option linter.unusedVariables false
set_option maxRecDepth 100000

/-- the table of powers, whatever is done from block B on -/
def Tab (B : Nat) (w : World) : Prop := Lib.TabBelow Tryd.prog B w "internal/strconv.uint64pow10" .u64 Lib.pow10Tab
theorem itoa_dec {x : Int} (h : 0 ≤ x) : Lib.itoa x = Lib.decDigits x.toNat := by unfold Lib.itoa; rw [if_neg (by omega)]

set_option maxHeartbeats 1000000 in
theorem appendNumbers_any (B : Nat) (v : Value) (bs : List UInt8) (vz : Value) (zs : List Int) (w : World) (hown : Own B w v bs) (hB : B ≤ w.heap.size) (hl : bs.length ≤ 400000) (hz : HNums B w vz zs) (hzl : zs.length ≤ 1000) (hsm : small zs) (ht : Tab B w) :
    Calls Tryd.prog 53 #[v, vz] w fun e w' => (∃ v', e = .returned v' ∧ Own B w' v' (bs ++ numsTo zs zs.length)) ∧ Gx B w w' := by
  obtain ⟨i0, hi, hz0, hz1, hz2⟩ := info_parts infoByte
  have HZN : Hid (HNums B w vz zs) := hz
  have HSM : Hid (small zs) := hsm
  have HT : Hid (Tab B w) := ht
  have HNL : Hid (∀ k, k ≤ zs.length → (numsTo zs k).length ≤ 8 * k) := fun k hk => numsTo_len hsm k hk
  obtain ⟨a, cap, rfl, hn, _⟩ := hz
  generalize hzn : zs.length = n at *
  have HZ : Hid (zs.length = n) := hzn
  clear hzn hsm ht
  go_enter Tryd.func53, Tryd.ntmps53
  go_wp2
  go_loopw [0, 6, 9] (fun o x i wr => ∃ k : Nat, k ≤ n ∧ i = .int .i64 k ∧ Hid (Own B wr o (bs ++ numsTo zs k)) ∧ Hid (Gx B w wr)) (fun _ _ i _ => n - (intOf i).toNat)
  case atStart => exact ⟨0, Nat.zero_le _, rfl, by unfold Hid; rw [show numsTo zs 0 = [] from rfl, List.append_nil]; exact hown, Gx.refl _ _⟩
  case round =>
    obtain ⟨k, hkn, rfl, HO, HG⟩ := hrel
    have HB : Hid (B ≤ wr.heap.size) := Nat.le_trans hB HG.out.1.size
    have HLL : Hid ((bs ++ numsTo zs k).length ≤ 408000) := by have := HNL.out k hkn; unfold Hid; rw [List.length_append]; omega
    by_cases hlt : k < n
    · obtain ⟨a', cap', e', _, hk'⟩ := HZN.out.keep HG.out
      simp at e'
      obtain ⟨ea, en, ec⟩ := e'
      clear en
      obtain ⟨b, off, hab, _, hb, hc⟩ := hk' (by rw [HZ.out]; omega)
      have hcc := (hc k (by rw [HZ.out]; exact hlt)).2
      rw [← ea] at hab
      subst hab
      clear hc hk' ea ec
      have hlt' : (k : Int) < n := by omega
      have hv := HSM.out k (by rw [HZ.out]; exact hlt)
      go_wp2_with (at_builtin; refine wpList_append_own _ rfl _ _ 29 rfl B 5 i0 (.int .u8 0) 1 1 Tryd.underlying29 hi hz0 hz1 hz2 rfl (by decide) _ _ _ rfl (HO.out.alloc _) ⟨wr.heap.size, 0, none⟩ 1 1 [Value.int .u8 ((32 : UInt8).toNat : Int)] rfl rfl ?c1 ?c2 ?c3 ?c4 ?c5 ?_)
      case c1 =>
        intro j u hj
        match j, hj with
        | 0, hj => simp at hj; subst hj; simp [Addr.add]
      case c2 => intro u hu; simp at hu; subst hu; rfl
      case c3 => have := HLL.out; unfold maxLen; omega
      case c4 => have := HLL.out; omega
      case c5 => have := HB.out; simp; omega
      · intro v1 w1 hown' hgrow _
        have HO1 : Hid (Own B w1 v1 (bs ++ numsTo zs k ++ [32])) := Own.snoc (by rw [List.length_append]; simpa using hown')
        have HG1 : Hid (Gx B w w1) := (HG.out.alloc HB.out _).grown (HO.out.alloc _) hgrow (by have := HB.out; simp; omega)
        have HB1 : Hid (B ≤ w1.heap.size) := Nat.le_trans hB HG1.out.1.size
        clear hown' hgrow
        go_wp2_with fail
        refine (Tryd.appendInt10 B _ _ (by omega) (by omega) _ _ _ HO1.out HB1.out (by have := HLL.out; simp only [List.length_append, List.length_cons, List.length_nil] at this ⊢; omega) (HT.out.on HG1.out.1)).mono ?_
        rintro e w2 ⟨v2, rfl, ho, hbl, hok⟩
        have HO2 : Hid (Own B w2 v2 (bs ++ numsTo zs (k + 1))) := by
          unfold Hid Own
          rw [itoa_dec hv.1, ← Lib.byteCells_append, ← List.length_append] at ho
          simp only [List.append_assoc, List.cons_append, List.nil_append] at ho
          exact ho
        have HG2 : Hid (Gx B w w2) := HG1.out.trans ⟨hbl, hok⟩
        clear ho hbl hok
        go_wp2
        go_roundw
        case rel => exact ⟨k + 1, by omega, by go_num, HO2, HG2⟩
        case measure => simp [intOf]; omega
    · have ek : n = k := by omega
      subst ek
      go_wp2
      go_ret
      exact ⟨⟨_, rfl, HO.out⟩, HG.out⟩
end Go.Proofs.YtedhchmigeooiaaDoor
