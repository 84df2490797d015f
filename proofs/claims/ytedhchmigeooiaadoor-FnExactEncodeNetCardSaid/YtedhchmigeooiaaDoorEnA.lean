import Derived.Test.YtedhchmigeooiaaDoorBase
import Derived.Lib.ItoaNum
import Derived.Laws.IdiomStrings
import Derived.OwnWalk
import Derived.Lib.OthersKept
import Derived.Lib.UnsafeStr
import Derived.Lib.Slices
namespace Go.Proofs.YtedhchmigeooiaaDoor
open Go.RowKit
set_option linter.unusedVariables false
set_option maxRecDepth 100000

/-- a digit's byte; named, so that no simp looks inside -/
def dig (x : Int) : UInt8 := UInt8.ofNat (48 + x.toNat)
theorem one_byte (x : Int) (h0 : 0 ≤ x) (h1 : x < 10) (X : World) (n : Nat) (hc : X.cell? ⟨n, 0, none⟩ = some (.int .u8 (48 + x))) : (convert 29 9 (.slice (some ⟨n, 0, none⟩) 1 1)).run Tryd.prog X = .ok (.string ⟨#[dig x]⟩) X :=
  run_convert_bytes_back (P := Tryd.prog) X 29 9 5 ⟨n, 0, none⟩ 1 [dig x] Tryd.underlying29 Tryd.underlying5 Tryd.underlying9 (fun j hj => by
    have : j = 0 := by simp at hj; omega
    subst this
    have e : ((dig x).toNat : Int) = 48 + x := by unfold dig; simp; omega
    simp only [List.getElem_cons_zero, e]
    simpa [Addr.add] using hc)

theorem ret_str {a b : ByteArray} (h : a = b) : Ending.returned (.string a) = .returned (.string b) := by rw [h]
theorem ba_append (a b : List UInt8) : (⟨a.toArray⟩ : ByteArray) ++ ⟨b.toArray⟩ = ⟨(a ++ b).toArray⟩ := by
  apply ByteArray.ext; simp [ByteArray.data_append]
theorem ba_snoc (l : List UInt8) (d : UInt8) : (⟨l.toArray⟩ : ByteArray) ++ ⟨#[d]⟩ = ⟨(l ++ [d]).toArray⟩ := ba_append l [d]
theorem dec_small {x : Int} (h0 : 0 ≤ x) (h1 : x < 10) : Lib.decDigits x.toNat = [dig x] := by
  rw [Lib.decDigits, dif_pos (by omega)]; rfl
theorem dec_big {x : Int} (h0 : 0 ≤ x) (h1 : 10 ≤ x) : Lib.decDigits x.toNat = Lib.decDigits (x / 10).toNat ++ [dig (x % 10)] := by
  rw [Lib.decDigits, dif_neg (by omega), show x.toNat / 10 = (x / 10).toNat from by omega, show x.toNat % 10 = (x % 10).toNat from by omega]; rfl

theorem dec_len (k : Nat) : ∀ n, n < 10 ^ (k + 1) → (Lib.decDigits n).length ≤ k + 1 := by
  induction k with
  | zero => intro n hn; rw [Lib.decDigits, dif_pos (by simpa using hn)]; simp
  | succ k ih =>
    intro n hn
    rw [Lib.decDigits]
    by_cases h : n < 10
    · rw [dif_pos h]; simp
    · rw [dif_neg h, List.length_append]
      have := ih (n / 10) (by rw [Nat.pow_succ] at hn; omega)
      simp; omega

set_option maxHeartbeats 400000 in
theorem l1Dec_any (k : Nat) : ∀ (x : Int) (w : World), x.toNat ≤ k → 0 ≤ x → x ≤ 1048576 →
    Calls Tryd.prog 20 #[.int .i64 x] w fun e w' => e = .returned (.string ⟨(Lib.decDigits x.toNat).toArray⟩) ∧ Nx w w' := by
  induction k with
  | zero =>
    intro x w hk h0 h1
    have hx : x < 10 := by omega
    have hcv := one_byte x h0 hx
    have HD : Hid (Lib.decDigits x.toNat = [dig x]) := dec_small h0 hx
    go_enter Tryd.func20, Tryd.ntmps20
    go_wp2
    go_ret
    exact ⟨ret_str (by rw [HD.out]), box1 _ _⟩
  | succ k ih =>
    intro x w hk h0 h1
    by_cases hx : x < 10
    · have hcv := one_byte x h0 hx
      have HD : Hid (Lib.decDigits x.toNat = [dig x]) := dec_small h0 hx
      clear ih
      go_enter Tryd.func20, Tryd.ntmps20
      go_wp2
      go_ret
      exact ⟨ret_str (by rw [HD.out]), box1 _ _⟩
    · have hx' : 10 ≤ x := by omega
      have hcv := one_byte (x % 10) (by omega) (by omega)
      have HD : Hid (Lib.decDigits x.toNat = Lib.decDigits (x / 10).toNat ++ [dig (x % 10)]) := dec_big h0 hx'
      have IH : Hid (∀ wq, Calls Tryd.prog 20 #[.int .i64 (x / 10)] wq fun e w' => e = .returned (.string ⟨(Lib.decDigits (x / 10).toNat).toArray⟩) ∧ Nx wq w') := fun wq => ih (x / 10) wq (by omega) (by omega) (by omega)
      clear ih
      have hq : IntKind.i64.wrap (x.tdiv 10) = x / 10 := by rw [IntKind.wrap_i64, Int.tdiv_eq_ediv_of_nonneg h0]; omega
      have hr : x.tmod 10 = x % 10 := Int.tmod_eq_emod_of_nonneg h0
      have hs : IntKind.i64.wrap (48 + x % 10) = 48 + x % 10 := by rw [IntKind.wrap_i64]; omega
      have ht : IntKind.u8.wrap (48 + x % 10) = 48 + x % 10 := by simp [IntKind.wrap, IntKind.bits, IntKind.signed]; omega
      have hl : (Lib.decDigits (x / 10).toNat).length ≤ 7 := dec_len 6 _ (by omega)
      have hn : ¬ 9223372036854775807 < (Lib.decDigits (x / 10).toNat).length + 1 := by omega
      go_enter Tryd.func20, Tryd.ntmps20
      go_wp2_with fail
      go_region_with (go_at_call 20; refine (IH.out _).mono ?_; rintro e w' ⟨rfl, hx⟩; first | (obtain hcc : w'.cell? ⟨w.heap.size, 0, none⟩ = some (.int .u8 (48 + x % 10)); (refine cell_next hx ?_ ?_ <;> (simp; done))) | skip)
      all_goals go_wp2
      all_goals go_ret
      all_goals refine ⟨ret_str ?_, ?_⟩
      all_goals first | (rw [HD.out]; exact ba_snoc _ _) | exact ((Nx.refl _).drew.trans hx).alloc _ | exact ((box1 _ _).drew).trans hx
end Go.Proofs.YtedhchmigeooiaaDoor

namespace Go.Proofs.YtedhchmigeooiaaDoor
open Go.RowKit
set_option linter.unusedVariables false
set_option maxRecDepth 100000

theorem infoByte : (Tryd.prog.info? 5).map (fun i => (i.zero, i.size, i.bytes)) = some (some (.int .u8 0), 1, 1) := by kernel_rfl

/-- v owns a row of bytes from block B on -/
def Own (B : Nat) (w : World) (v : Value) (bs : List UInt8) : Prop := w.ownsRow B 5 1 v bs.length (Lib.byteCells bs)
/-- below B nothing has turned; above it byte rows alone -/
def Gx (B : Nat) (w w' : World) : Prop := Below B w w' ∧ Lib.OthersKept 5 none w w'
theorem Gx.refl (B : Nat) (w : World) : Gx B w w := ⟨Below.refl _ _, Lib.OthersKept.refl _ _ _⟩
theorem Gx.trans {B : Nat} {a b c : World} (h : Gx B a b) (k : Gx B b c) : Gx B a c := ⟨h.1.trans k.1, h.2.trans k.2⟩
theorem Gx.alloc {B : Nat} {a w : World} (h : Gx B a w) (hB : B ≤ w.heap.size) (o : Obj) : Gx B a (w.alloc o) := ⟨h.1.alloc hB o, h.2.alloc o⟩

theorem own_row {B : Nat} {w : World} {v : Value} {bs : List UInt8} (h : Own B w v bs) : ∀ g, v.ownBlock = some g → ∃ c fz, w.heap[g]? = some (.cells c 5 fz) := by
  intro g hg
  rcases h.2 with ⟨rfl, _⟩ | ⟨g', cap, cur, rfl, _, hh, _⟩
  · simp [Value.ownBlock] at hg
  · simp [Value.ownBlock] at hg; subst hg; exact ⟨_, _, hh⟩
theorem Gx.grown {B : Nat} {a w w' : World} {v : Value} {bs : List UInt8} (h : Gx B a w) (hown : Own B w v bs) (hg : w.grownBy w' v.ownBlock) (hB : B ≤ w.heap.size) : Gx B a w' := by
  refine ⟨h.1.grown hg hB (fun k hk => (hown.lt k hk).1), h.2.trans ?_⟩
  intro k o hk hb ho
  have hlt : k < w.heap.size := (Array.getElem?_eq_some_iff.1 hk).1
  rw [hg.block k hlt (fun e => by
    obtain ⟨c, fz, hh⟩ := own_row hown k e.symm
    rw [hk] at hh
    exact ho c fz (by simpa using hh))]
  exact hk

theorem Own.alloc {B : Nat} {w : World} {v : Value} {bs : List UInt8} (h : Own B w v bs) (o : Obj) : Own B (w.alloc o) v bs := World.ownsRow.alloc h o
/-- one byte more -/
theorem Own.snoc {B : Nat} {w : World} {v : Value} {bs : List UInt8} {b : UInt8} (h : w.ownsRow B 5 1 v (bs.length + 1) (Lib.byteCells bs ++ [.int .u8 (b.toNat : Int)])) : Own B w v (bs ++ [b]) := by
  unfold Own
  rw [List.length_append, Lib.byteCells_append]
  exact h

/-- the first k bytes of a text -/
def pre (s : ByteArray) (k : Nat) : List UInt8 := s.data.toList.take k
theorem pre_zero (s : ByteArray) : pre s 0 = [] := by simp [pre]
theorem pre_succ (s : ByteArray) (k : Nat) (h : k < s.size) : pre s (k + 1) = pre s k ++ [s[k]] := by
  unfold pre; rw [List.take_succ_eq_append_getElem (by simpa using h)]; rfl
theorem pre_len (s : ByteArray) (k : Nat) : (pre s k).length ≤ k := List.length_take_le _ _
theorem pre_all (s : ByteArray) (k : Nat) (h : s.size ≤ k) : pre s k = s.data.toList := List.take_of_length_le (by simpa using h)

set_option maxHeartbeats 1000000 in
theorem l1Put_any (B : Nat) (v : Value) (bs : List UInt8) (s : ByteArray) (w : World) (hown : Own B w v bs) (hB : B ≤ w.heap.size) (hl : bs.length ≤ 1048576) (hs : s.size ≤ 1048576) :
    Calls Tryd.prog 18 #[v, .string s] w fun e w' => (∃ v', e = .returned v' ∧ Own B w' v' (bs ++ s.data.toList)) ∧ Gx B w w' := by
  obtain ⟨i0, hi, hz0, hz1, hz2⟩ := info_parts infoByte
  go_enter Tryd.func18, Tryd.ntmps18
  go_wp2
  go_loopw [0, 5] (fun o i wr => ∃ k : Nat, k ≤ s.size ∧ i = .int .i64 k ∧ Hid (Own B wr o (bs ++ pre s k)) ∧ Hid (Gx B w wr)) (fun _ i _ => s.size - (intOf i).toNat)
  case atStart => exact ⟨0, Nat.zero_le _, rfl, by unfold Hid; rw [pre_zero, List.append_nil]; exact hown, Gx.refl _ _⟩
  case round =>
    rename_i u0 _
    obtain ⟨k, hkn, rfl, HO, HG⟩ := hrel
    by_cases hlt : k < s.size
    · have hpl := pre_len s k
      have hBr : B ≤ wr.heap.size := Nat.le_trans hB HG.out.1.size
      have HB : Hid (B ≤ wr.heap.size) := hBr
      have hlen : (bs ++ pre s k).length ≤ 2097152 := by rw [List.length_append]; omega
      have HL : Hid ((bs ++ pre s k).length ≤ 2097152) := hlen
      clear hlen hpl hBr
      go_wp2_with (at_builtin; refine wpList_append_own _ rfl _ _ 29 rfl B 5 i0 (.int .u8 0) 1 1 Tryd.underlying29 hi hz0 hz1 hz2 rfl (by decide) _ _ _ rfl (HO.out.alloc _) ⟨wr.heap.size, 0, none⟩ 1 1 [Value.int .u8 (s[k].toNat : Int)] rfl rfl ?c1 ?c2 ?c3 ?c4 ?c5 ?_)
      case c1 =>
        intro j u hj
        match j, hj with
        | 0, hj => simp at hj; subst hj; simp [Addr.add]
      case c2 => intro u hu; simp at hu; subst hu; rfl
      case c3 => have := HL.out; unfold maxLen; omega
      case c4 => have := HL.out; omega
      case c5 => have := HB.out; simp; omega
      · intro v' w' hown' hgrow _
        have HO' : Hid (Own B w' v' (bs ++ pre s (k + 1))) := by
          unfold Hid
          rw [pre_succ s k hlt, ← List.append_assoc]
          exact Own.snoc (by rw [List.length_append]; exact hown')
        have HG' : Hid (Gx B w w') := (HG.out.alloc HB.out _).grown (HO.out.alloc _) hgrow (by have := HB.out; simp; omega)
        clear hown' hgrow
        go_wp2
        go_roundw
        case rel => exact ⟨k + 1, by omega, by go_num, HO', HG'⟩
        case measure => simp [intOf]; omega
    · go_wp2
      go_ret
      exact ⟨⟨_, rfl, by rw [← pre_all s k (by omega)]; exact HO.out⟩, HG.out⟩
end Go.Proofs.YtedhchmigeooiaaDoor

namespace Go.Proofs.YtedhchmigeooiaaDoor
open Go.RowKit
set_option linter.unusedVariables false
set_option maxRecDepth 100000

theorem Gx.of_nx {B : Nat} {w w' : World} (h : Nx w w') (hB : B ≤ w.heap.size) : Gx B w w' :=
  ⟨Below.mono h hB, fun k o hk _ _ => (h.block k (Array.getElem?_eq_some_iff.1 hk).1).trans hk⟩
theorem Own.next {B : Nat} {w w' : World} {v : Value} {bs : List UInt8} (h : Own B w v bs) (k : Nx w w') : Own B w' v bs := by
  obtain ⟨h1, h2⟩ := h
  refine ⟨h1, ?_⟩
  rcases h2 with h2 | ⟨g, cap, cur, hv, hg, hh, r⟩
  · exact Or.inl h2
  · exact Or.inr ⟨g, cap, cur, hv, hg, (k.block g (Array.getElem?_eq_some_iff.1 hh).1).trans hh, r⟩

/-- a list of numbers that stands while byte rows grow -/
def HNums (B : Nat) (w : World) (v : Value) (zs : List Int) : Prop :=
  HSlice 0 w v zs.length fun b off i => (b < B ∨ ∃ c t fz, t ≠ 5 ∧ w.heap[b]? = some (.cells c t fz)) ∧ w.cell? ⟨b, off + i, none⟩ = some (.int .i64 (iat zs i))
theorem HNums.keep {B : Nat} {w w' : World} {v : Value} {zs : List Int} (h : HNums B w v zs) (k : Gx B w w') : HNums B w' v zs :=
  HSlice.mono h (Nat.le_refl _) k.1.size fun b off hb hs i hi hc => by
    obtain ⟨h1, h2⟩ := hc
    rcases h1 with h1 | ⟨c, t, fz, ht, hh⟩
    · exact ⟨Or.inl h1, (k.1.cell (p := ⟨b, off + i, none⟩) h1).trans h2⟩
    · have e := k.2 b _ hh (by simp) (fun c' fz' e => ht (by simp at e; exact e.2.1))
      exact ⟨Or.inr ⟨c, t, fz, ht, e⟩, (World.cell?_of_block (w := w) (a := ⟨b, off + i, none⟩) (e.trans hh.symm)).trans h2⟩
theorem HInts.nums {B0 B : Nat} {w : World} {v : Value} {zs : List Int} (h : HInts B0 w v zs) (hB : w.heap.size ≤ B) : HNums B w v zs :=
  HSlice.mono h (Nat.zero_le _) (Nat.le_refl _) fun b off hb hs i hi hc => ⟨Or.inl (by omega), hc⟩

/-- the numbers, a space ahead of each -/
def numsTo (zs : List Int) : Nat → List UInt8
  | 0 => []
  | k + 1 => numsTo zs k ++ (32 :: Lib.decDigits (iat zs k).toNat)
def small (zs : List Int) : Prop := ∀ i, i < zs.length → 0 ≤ iat zs i ∧ iat zs i ≤ 1048576
theorem numsTo_len {zs : List Int} (h : small zs) (k : Nat) (hk : k ≤ zs.length) : (numsTo zs k).length ≤ 8 * k := by
  induction k with
  | zero => simp [numsTo]
  | succ k ih =>
    have h1 := ih (by omega)
    have h2 : (Lib.decDigits (iat zs k).toNat).length ≤ 7 := dec_len 6 _ (by have := h k (by omega); omega)
    simp only [numsTo, List.length_append, List.length_cons]
    omega

theorem space_word (l : List UInt8) : ((⟨#[32]⟩ : ByteArray) ++ ⟨l.toArray⟩) = ⟨(32 :: l).toArray⟩ := ba_append [32] l

set_option maxHeartbeats 1000000 in
theorem l1PutLine_any (B : Nat) (v : Value) (bs : List UInt8) (s : ByteArray) (vz : Value) (zs : List Int) (w : World) (hown : Own B w v bs) (hB : B ≤ w.heap.size) (hl : bs.length ≤ 400000) (hs : s.size ≤ 100) (hz : HNums B w vz zs) (hzl : zs.length ≤ 1000) (hsm : small zs) :
    Calls Tryd.prog 19 #[v, .string s, vz] w fun e w' => (∃ v', e = .returned v' ∧ Own B w' v' (bs ++ s.data.toList ++ numsTo zs zs.length ++ [10])) ∧ Gx B w w' := by
  obtain ⟨i0, hi, hz0, hz1, hz2⟩ := info_parts infoByte
  have HZN : Hid (HNums B w vz zs) := hz
  have HSM : Hid (small zs) := hsm
  have HNL : Hid (∀ k, k ≤ zs.length → (numsTo zs k).length ≤ 8 * k) := fun k hk => numsTo_len hsm k hk
  obtain ⟨a, cap, rfl, hn, _⟩ := hz
  generalize hzn : zs.length = n at *
  have HZ : Hid (zs.length = n) := hzn
  clear hzn hsm
  go_enter Tryd.func19, Tryd.ntmps19
  go_wp2_with fail
  refine (l1Put_any B _ bs s _ hown hB (by omega) (by omega)).mono ?_
  rintro e w1 ⟨⟨v1, rfl, ho⟩, hg⟩
  have HO1 : Hid (Own B w1 v1 (bs ++ s.data.toList)) := ho
  have HG1 : Hid (Gx B w w1) := hg
  have hsl : s.data.toList.length ≤ 100 := by simpa using hs
  clear ho hg
  generalize hb1 : bs ++ s.data.toList = b1 at *
  have hb1l : b1.length ≤ 400100 := by rw [← hb1, List.length_append]; omega
  have HB1 : Hid (bs ++ s.data.toList = b1) := hb1
  clear hb1
  go_wp2
  go_loopw [0, 7] (fun o i wr => ∃ k : Nat, k ≤ n ∧ i = .int .i64 k ∧ Hid (Own B wr o (b1 ++ numsTo zs k)) ∧ Hid (Gx B w wr)) (fun _ i _ => n - (intOf i).toNat)
  case atStart => exact ⟨0, Nat.zero_le _, rfl, by unfold Hid; rw [show numsTo zs 0 = [] from rfl, List.append_nil]; exact HO1.out, HG1.out⟩
  case round =>
    obtain ⟨k, hkn, rfl, HO, HG⟩ := hrel
    have HB : Hid (B ≤ wr.heap.size) := Nat.le_trans hB HG.out.1.size
    have HLL : Hid ((b1 ++ numsTo zs k).length ≤ 408100) := by have := HNL.out k hkn; unfold Hid; rw [List.length_append]; omega
    by_cases hlt : k < n
    · obtain ⟨a', cap', e', _, hk'⟩ := HZN.out.keep HG.out
      simp at e'
      obtain ⟨ea, en, ec⟩ := e'
      clear en
      obtain ⟨b, off, hab, _, hb, hc⟩ := hk' (by rw [HZ.out]; omega)
      have hcc := (hc k (by rw [HZ.out]; exact hlt)).2
      rw [← ea] at hab
      subst hab
      clear hc hk' ea ec
      have hlt' : (k : Int) < n := by omega
      have hv := HSM.out k (by rw [HZ.out]; exact hlt)
      have hdl : (Lib.decDigits (iat zs k).toNat).length ≤ 7 := dec_len 6 _ (by omega)
      have hnb : ¬ 9223372036854775807 < 1 + (Lib.decDigits (iat zs k).toNat).length := by omega
      go_wp2_with fail
      refine (l1Dec_any _ _ _ (Nat.le_refl _) hv.1 hv.2).mono ?_
      rintro e w2 ⟨rfl, hx⟩
      have HX : Hid (Nx wr w2) := hx
      clear hx
      go_wp2_with fail
      rw [space_word]
      refine (l1Put_any B _ (b1 ++ numsTo zs k) _ _ (HO.out.next HX.out) (Nat.le_trans HB.out HX.out.size) (by have := HLL.out; omega) (by simp [ByteArray.size]; omega)).mono ?_
      rintro e w3 ⟨⟨v3, rfl, ho⟩, hg⟩
      have HO3 : Hid (Own B w3 v3 (b1 ++ numsTo zs (k + 1))) := by
        unfold Hid
        simp only [List.append_assoc] at ho
        exact ho
      have HG3 : Hid (Gx B w w3) := HG.out.trans ((Gx.of_nx HX.out HB.out).trans hg)
      clear ho hg
      go_wp2
      go_roundw
      case rel => exact ⟨k + 1, by omega, by go_num, HO3, HG3⟩
      case measure => simp [intOf]; omega
    · have ek : n = k := by omega
      subst ek
      have hge : (n : Int) ≤ n := by omega
      go_wp2_with (at_builtin; refine wpList_append_own _ rfl _ _ 29 rfl B 5 i0 (.int .u8 0) 1 1 Tryd.underlying29 hi hz0 hz1 hz2 rfl (by decide) _ _ _ rfl (HO.out.alloc _) ⟨wr.heap.size, 0, none⟩ 1 1 [Value.int .u8 ((10 : UInt8).toNat : Int)] rfl rfl ?c1 ?c2 ?c3 ?c4 ?c5 ?_)
      case c1 =>
        intro j u hj
        match j, hj with
        | 0, hj => simp at hj; subst hj; simp [Addr.add]
      case c2 => intro u hu; simp at hu; subst hu; rfl
      case c3 => have := HLL.out; unfold maxLen; omega
      case c4 => have := HLL.out; omega
      case c5 => have := HB.out; simp; omega
      · intro v' w' hown' hgrow _
        have HO' : Hid (Own B w' v' (b1 ++ numsTo zs n ++ [10])) := Own.snoc (by rw [List.length_append]; simpa using hown')
        have HG' : Hid (Gx B w w') := (HG.out.alloc HB.out _).grown (HO.out.alloc _) hgrow (by have := HB.out; simp; omega)
        clear hown' hgrow
        go_wp2
        go_ret
        exact ⟨⟨_, rfl, by rw [HB1.out]; exact HO'.out⟩, HG'.out⟩
end Go.Proofs.YtedhchmigeooiaaDoor
