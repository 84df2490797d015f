import Derived.Test.YtedhchmigeooiaaDoorEnJ
namespace Go.Proofs.YtedhchmigeooiaaDoor
open Go.RowKit
set_option linter.unusedVariables false
set_option maxRecDepth 100000

theorem nums3 (B : Nat) (w : World) (x y z : Int) : HNums B (w.alloc (.cells #[.int .i64 x, .int .i64 y, .int .i64 z] 2)) (.slice (some ⟨w.heap.size, 0, none⟩) 3 3) [x, y, z] := by
  refine ⟨_, _, rfl, by simp [maxLen], fun _ => ⟨w.heap.size, 0, rfl, Nat.zero_le _, by simp, fun i hi => ⟨Or.inr ⟨#[.int .i64 x, .int .i64 y, .int .i64 z], 2, (0, 0), by decide, by show (w.heap.push _)[w.heap.size]? = _; simp⟩, ?_⟩⟩⟩
  simp only [List.length_cons, List.length_nil] at hi
  rcases (show i = 0 ∨ i = 1 ∨ i = 2 by omega) with rfl | rfl | rfl <;> simp [iat]

theorem appendWay_any (B : Nat) (v0 : Value) (b0 : List UInt8) (x : Wy) (a1 a2 : Option Addr) (n1 c1 n2 c2 : Nat) (w : World) (hown : Own B w v0 b0) (hB : B ≤ w.heap.size) (hl : b0.length ≤ 380000) (hzn : HNums B w (.slice a1 n1 c1) x.nodes) (hzw : HNums B w (.slice a2 n2 c2) x.weights) (hx : WayIn x) (ht : Tab B w) :
    Calls Tryd.prog 27 #[v0, .agg #[.int .i64 x.id, .bool x.both, .slice a1 n1 c1, .slice a2 n2 c2]] w fun e w' => (∃ v', e = .returned v' ∧ Own B w' v' (b0 ++ wayTx x)) ∧ Gx B w w' := by
  cases h : x.both
  · have := appendWay_f B v0 b0 x a1 a2 n1 c1 n2 c2 w hown hB hl hzn hzw hx.nodes hx.weights hx.len hx.seg hx.id ht
    simpa only [wayTx, h, Bool.false_eq_true, if_false] using this
  · have := appendWay_b B v0 b0 x a1 a2 n1 c1 n2 c2 w hown hB hl hzn hzw hx.nodes hx.weights hx.len hx.seg hx.id ht
    simpa only [wayTx, h, if_true] using this

theorem appendRel_any (B : Nat) (v0 : Value) (b0 : List UInt8) (x : Rl) (vz : Value) (w : World) (hown : Own B w v0 b0) (hB : B ≤ w.heap.size) (hl : b0.length ≤ 380000) (hz : HNums B w vz x.ways) (hx : RelIn x) (ht : Tab B w) :
    Calls Tryd.prog 28 #[v0, .agg #[.int .i64 x.id, .bool x.only, .int .i64 x.frm, .int .i64 x.to, .bool x.via, .int .i64 x.node, vz]] w fun e w' => (∃ v', e = .returned v' ∧ Own B w' v' (b0 ++ relTx x)) ∧ Gx B w w' := by
  have l : x.ways.length ≤ 100 := by have := hx.len; omega
  cases h : x.only <;> cases h' : x.via
  · have := appendRel_no_by B v0 b0 x vz w hown hB hl hz l hx.ways hx.id hx.frm hx.to hx.node ht
    simpa only [relTx, h, h', Bool.false_eq_true, if_false] using this
  · have := appendRel_no_at B v0 b0 x vz w hown hB hl hz l hx.ways hx.id hx.frm hx.to hx.node ht
    simpa only [relTx, h, h', Bool.false_eq_true, if_true, if_false] using this
  · have := appendRel_only_by B v0 b0 x vz w hown hB hl hz l hx.ways hx.id hx.frm hx.to hx.node ht
    simpa only [relTx, h, h', Bool.false_eq_true, if_true, if_false] using this
  · have := appendRel_only_at B v0 b0 x vz w hown hB hl hz l hx.ways hx.id hx.frm hx.to hx.node ht
    simpa only [relTx, h, h', if_true] using this

theorem line_node (b : List UInt8) (z : Int) : b ++ (⟨#[110, 111, 100, 101]⟩ : ByteArray).data.toList ++ numsTo [z] [z].length ++ [10] = b ++ nodeTx z := by simp [nodeTx]
theorem line_turn (b : List UInt8) (x : Tn) : b ++ (⟨#[116, 117, 114, 110]⟩ : ByteArray).data.toList ++ numsTo [x.frm, x.to, x.cost] [x.frm, x.to, x.cost].length ++ [10] = b ++ turnTx x := by simp [turnTx]
end Go.Proofs.YtedhchmigeooiaaDoor
