import Derived.Test.YtedhchmigeooiaaDoorEnG
import Derived.Test.YtedhchmigeooiaaDoorEnH
import Derived.Lib.SlBytesConst
namespace Go.Proofs.YtedhchmigeooiaaDoor
open Go.RowKit Go.Lib
set_option linter.unusedVariables false
set_option maxRecDepth 100000

/-- a text appended to a slice that is full: what comes back is owned -/
theorem run_append_full (w : World) (B : Nat) (t u ty e : TypeId) (i : TypeInfo) (ht : Tryd.prog.underlying t = some (.slice e)) (hu : Tryd.prog.underlying u = some .string) (hi : Tryd.prog.info? e = some i) (hz : i.zero = some (.int .u8 0))
    (hsize : i.size = 1) (hby : i.bytes = 1) (g n : Nat) (xs : List Value) (hxl : xs.length = n) (hold : ∀ j u, xs[j]? = some u → w.cell? ((⟨g, 0, none⟩ : Addr).add j) = some u) (s : ByteArray) (hs0 : 0 < s.size) (hn : n + s.size ≤ 1048576) (hbase : B ≤ w.heap.size) :
    ∃ v' w', (Builtin.append_ #[t, u] ty #[.slice (some ⟨g, 0, none⟩) n n, .string s]).run Tryd.prog w = .ok v' w' ∧ w'.ownsRow B e 1 v' (n + s.size) (xs ++ strCells s) ∧ w.grownBy w' none := by
  have h63 : n + s.size ≤ maxLen := by simp only [maxLen]; omega
  have hlen : (xs ++ strCells s).length = (n + s.size) * 1 := by rw [List.length_append, hxl, strCells_length, Nat.mul_one]
  have hge := grownCap_ge w (n + s.size) n e
  have hcm : grownCap w (n + s.size) n e ≤ maxLen := grownCap_le_maxLen w (n + s.size) n e h63
  have hr := run_append_grow_string (P := Tryd.prog) w t u ty e i (.int .u8 0) ht hu hi hz ⟨g, 0, none⟩ n n xs (by rw [hsize]; simpa using hxl) hold s (by omega) (by omega) (by rw [hby]; exact growslice_fits (by omega) (by omega))
  refine ⟨_, _, hr, ⟨hlen, .inr ⟨w.heap.size, _, _, rfl, hbase, heap_alloc_new w.drew _, hge, hcm, ?_, ?_⟩⟩, ⟨rfl, rfl, rfl, by simp, fun k hk _ => heap_alloc_old w.drew _ hk⟩⟩
  · have hz1 : (Value.int IntKind.u8 0).cells.size = 1 := rfl
    simp only [Array.size_append, List.size_toArray, size_zeroCells, hz1, hxl, strCells_length]
    omega
  · simp only [Array.toList_append, List.append_assoc]
    rw [← List.append_assoc, ← hlen]
    exact List.take_left

theorem wpList_append_full {w : World} {ops : Array Oper} {rest : List Oper} {o : Oper} {a : Act} {Q : Exit → Act → World → Prop} (hgd : o.guard = none) (sl x : Operand) (t u : TypeId)
    (ho : o.op = .call { callee := .builtin .append, args := #[sl, x], argTypes := #[t, u] })
    (B : Nat) (e : TypeId) (i : TypeInfo) (ht : Tryd.prog.underlying t = some (.slice e)) (hu : Tryd.prog.underlying u = some .string) (hi : Tryd.prog.info? e = some i) (hz : i.zero = some (.int .u8 0))
    (hsize : i.size = 1) (hby : i.bytes = 1) (g n : Nat) (xs : List Value) (hs : a.eval sl = .slice (some ⟨g, 0, none⟩) n n) (hxl : xs.length = n) (hold : ∀ j u, xs[j]? = some u → w.cell? ((⟨g, 0, none⟩ : Addr).add j) = some u)
    (s : ByteArray) (hx : a.eval x = .string s) (hs0 : 0 < s.size) (hn : n + s.size ≤ 1048576) (hbase : B ≤ w.heap.size)
    (h : ∀ v' w', w'.ownsRow B e 1 v' (n + s.size) (xs ++ strCells s) → w.grownBy w' none → wpList Tryd.prog ops Q rest (a.put o.dst v') w') : wpList Tryd.prog ops Q (o :: rest) a w := by
  refine wpList_plain hgd fun K hK => ?_
  obtain ⟨v', w', hr, h2, h3⟩ := run_append_full w B t u o.type e i ht hu hi hz hsize hby g n xs hxl hold s hs0 hn hbase
  unfold Oper.wp execOp
  simp only [ho, resolve, invoke, builtin, Sem.run_bind, Sem.run_pure, Result.andThen_ok, List.map_toArray, List.map_cons, List.map_nil, hs, hx, hr]
  exact hK _ _ (h v' w' h2 h3)

/-- bytes that a full slice shows, not owned -/
def Full (w : World) (g : Nat) (bs : List UInt8) : Prop := ∀ j u, (byteCells bs)[j]? = some u → w.cell? ((⟨g, 0, none⟩ : Addr).add j) = some u
theorem Gx.grown0 {B : Nat} {a w w' : World} (h : Gx B a w) (hg : w.grownBy w' none) (hB : B ≤ w.heap.size) : Gx B a w' := by
  refine ⟨h.1.grown hg hB (fun k hk => by simp at hk), h.2.trans ?_⟩
  intro k o hk hb ho
  have hlt : k < w.heap.size := (Array.getElem?_eq_some_iff.1 hk).1
  rw [hg.block k hlt (by simp)]
  exact hk

theorem byteCells_length' (bs : List UInt8) : (byteCells bs).length = bs.length := by simp [byteCells]

set_option maxHeartbeats 1000000 in
theorem appendLine_full (B : Nat) (g : Nat) (bs : List UInt8) (s : ByteArray) (vz : Value) (zs : List Int) (w : World) (hf : Full w g bs) (hs0 : 0 < s.size) (hB : B ≤ w.heap.size) (hl : bs.length ≤ 390000) (hs : s.size ≤ 100) (hz : HNums B w vz zs) (hzl : zs.length ≤ 1000) (hsm : small zs) (ht : Tab B w) :
    Calls Tryd.prog 26 #[.slice (some ⟨g, 0, none⟩) bs.length bs.length, .string s, vz] w fun e w' => (∃ v', e = .returned v' ∧ Own B w' v' (bs ++ s.data.toList ++ numsTo zs zs.length ++ [10])) ∧ Gx B w w' := by
  obtain ⟨i0, hi, hz0, hz1, hz2⟩ := info_parts infoByte
  have HZN : Hid (HNums B w vz zs) := hz
  have HSM : Hid (small zs) := hsm
  have HT : Hid (Tab B w) := ht
  have HNL : Hid ((numsTo zs zs.length).length ≤ 8 * zs.length) := numsTo_len hsm _ (Nat.le_refl _)
  have hsl : s.data.toList.length = s.size := by simp
  have HSL : Hid (s.data.toList.length = s.size) := hsl
  have HF : Hid (Full w g bs) := hf
  clear hsm ht hz hsl hf
  go_enter Tryd.func26, Tryd.ntmps26
  go_wp2_with (at_builtin; refine wpList_append_full rfl _ _ 29 9 rfl B 5 i0 Tryd.underlying29 Tryd.underlying9 hi hz0 hz1 hz2 g bs.length (byteCells bs) rfl (byteCells_length' bs) HF.out s rfl hs0 ?l2 hB ?_)
  case l2 => omega
  · intro v1 w1 hown' hgrow
    have HO1 : Hid (Own B w1 v1 (bs ++ s.data.toList)) := Own.str hown'
    have HG1 : Hid (Gx B w w1) := (Gx.refl B w).grown0 hgrow hB
    have HB1 : Hid (B ≤ w1.heap.size) := Nat.le_trans hB HG1.out.1.size
    have HL1 : Hid ((bs ++ s.data.toList).length ≤ 390100) := by unfold Hid; rw [List.length_append, HSL.out]; omega
    clear hown' hgrow
    go_wp2_with fail
    refine (appendNumbers_any B _ (bs ++ s.data.toList) _ zs _ HO1.out HB1.out (by have := HL1.out; omega) (HZN.out.keep HG1.out) hzl HSM.out (HT.out.on HG1.out.1)).mono ?_
    rintro e w2 ⟨⟨v2, rfl, ho⟩, hg⟩
    have HO2 : Hid (Own B w2 v2 (bs ++ s.data.toList ++ numsTo zs zs.length)) := ho
    have HG2 : Hid (Gx B w w2) := HG1.out.trans hg
    have HB2 : Hid (B ≤ w2.heap.size) := Nat.le_trans hB HG2.out.1.size
    have HL2 : Hid ((bs ++ s.data.toList ++ numsTo zs zs.length).length ≤ 400000) := by
      have h1 := HL1.out
      have h2 := HNL.out
      unfold Hid
      rw [List.length_append]
      omega
    clear ho hg
    generalize hb2 : bs ++ s.data.toList ++ numsTo zs zs.length = b2 at *
    have HE : Hid (bs ++ s.data.toList ++ numsTo zs zs.length = b2) := hb2
    clear hb2
    go_wp2_with (at_builtin; refine wpList_append_own _ rfl _ _ 29 rfl B 5 i0 (.int .u8 0) 1 1 Tryd.underlying29 hi hz0 hz1 hz2 rfl (by decide) _ _ _ rfl (HO2.out.alloc _) ⟨w2.heap.size, 0, none⟩ 1 1 [Value.int .u8 ((10 : UInt8).toNat : Int)] rfl rfl ?c1 ?c2 ?c3 ?c4 ?c5 ?_)
    case c1 =>
      intro j u hj
      match j, hj with
      | 0, hj => simp at hj; subst hj; simp [Addr.add]
    case c2 => intro u hu; simp at hu; subst hu; rfl
    case c3 => have := HL2.out; unfold maxLen; omega
    case c4 => have := HL2.out; omega
    case c5 => have := HB2.out; simp; omega
    · intro v' w' hown' hgrow _
      have HO' : Hid (Own B w' v' (b2 ++ [10])) := Own.snoc hown'
      have HG' : Hid (Gx B w w') := (HG2.out.alloc HB2.out _).grown (HO2.out.alloc _) hgrow (by have := HB2.out; simp; omega)
      clear hown' hgrow
      go_wp2
      go_ret
      exact ⟨⟨_, rfl, by rw [HE.out]; exact HO'.out⟩, HG'.out⟩
end Go.Proofs.YtedhchmigeooiaaDoor
