import Derived.Test.YticooljejlkbfaaQA
import Derived.Test.YticooljejlkbfaaShelf
import Derived.Laws.CopyOwn
namespace Go.Proofs.Yticooljejlkbfaa
open Go.RowKit Go.Sort Go.Maps Go.Shelf
set_option linter.unusedVariables false
set_option maxRecDepth 100000

theorem mul_any (n : Nat) (hn : n ≤ 100000) (w : World) : Calls Try.prog 71 #[.int .u64 1, .int .u64 (n : Int)] w fun e w' => e = .returned (.tuple #[.int .u64 0, .int .u64 (n : Int)]) ∧ w' = w := by
  have h := Any.bits_Mul Try.mulA 1 n (by omega) (by omega) w
  rw [show 1 * n / 18446744073709551616 = 0 by omega, show 1 * n % 18446744073709551616 = n by omega] at h
  exact h
/-- the row while it is filled: i cells hold z -/
def fl (z : Int) (n i : Nat) : List Value := List.replicate i (.int .i64 z) ++ List.replicate (n - i) (.int .i64 0)
theorem fl_len (z : Int) (n i : Nat) (h : i ≤ n) : (fl z n i).length = n := by simp [fl]; omega
theorem fl_get (z : Int) (n i k : Nat) (h : k < i) : (fl z n i)[k]? = some (.int .i64 z) := by
  unfold fl; rw [List.getElem?_append_left (by simpa using h)]; simp [h]
theorem fl_splice (z : Int) (n i j : Nat) (h : i + j ≤ n) : splice (fl z n i) i (List.replicate j (.int .i64 z)) = fl z n (i + j) := by
  unfold splice fl
  apply List.ext_getElem?
  intro k
  simp only [List.getElem?_append, List.getElem?_take, List.getElem?_drop, List.getElem?_replicate, List.length_append, List.length_take, List.length_replicate]
  have e0 : min i (i + (n - i)) = i := by omega
  rw [e0]
  by_cases h1 : k < i
  · simp [h1, show k < i + j by omega]
  · by_cases h2 : k < i + j
    · simp [h1, h2, show k - i < j by omega]
    · by_cases h3 : k < n
      · simp [h1, h2, show ¬ k - i < j by omega, show ¬ i + j + (k - i - j) < i by omega, show i + j + (k - i - j) - i < n - i by omega, show k - (i + j) < n - (i + j) by omega]
      · simp [h1, h2, show ¬ k - i < j by omega, show ¬ i + j + (k - i - j) < i by omega, show ¬ i + j + (k - i - j) - i < n - i by omega, show ¬ k - (i + j) < n - (i + j) by omega]
theorem made_list (n : Nat) : madeCells #[.int .i64 0] n = (List.replicate n (Value.int .i64 0)).toArray := by
  apply Array.ext'
  simp only [madeCells]
  apply List.ext_getElem?
  intro k
  by_cases h : k < n <;> simp [h, Nat.mod_one]
theorem fl_ints (z : Int) (n : Nat) : fl z n n = icells (List.replicate n z) := by simp [fl, icells]
theorem sz2 : (Try.prog.info? 2).map (·.size) = some 1 := by kernel_rfl
set_option maxHeartbeats 8000000 in
theorem repeat_any (w : World) (xb n : Nat) (z : Int) (hx : w.cell? ⟨xb, 0, none⟩ = some (.int .i64 z)) (hn : 1 ≤ n) (hn6 : n ≤ 6000) :
    Calls Try.prog 67 #[.slice (some ⟨xb, 0, none⟩) 1 1, .int .i64 (n : Int)] w fun e w' => e = .returned (.slice (some ⟨w.heap.size, 0, none⟩) n n) ∧ w'.heap[w.heap.size]? = some (.cells (icells (List.replicate n z)).toArray 2 (0, 0)) ∧ Nx w w' := by
  have hmk := run_make_row' (P := Try.prog) 22 2 (.int .i64 0) 8 Try.underlying22 info2 rfl .i64 .i64 n (by omega) (by omega)
  have d0 : decide ((n : Int) < 0) = false := decide_eq_false (by omega)
  have d1 : decide ((9223372036854775807 : Int) < (n : Int)) = false := decide_eq_false (by omega)
  have hg0 : (w.alloc (.cells (madeCells #[.int .i64 0] n) 2)).heap[w.heap.size]? = some (.cells (List.replicate n (Value.int .i64 0)).toArray 2 (0, 0)) := by
    rw [made_list]
    have := hn_base (w := w) (o := .cells (List.replicate n (Value.int .i64 0)).toArray 2) (g := w.heap.size) rfl
    exact this
  have hx1 : (w.alloc (.cells (madeCells #[.int .i64 0] n) 2)).cell? ⟨xb, 0, none⟩ = some (.int .i64 z) := cellq (Nx.alloc (Nx.refl _) _) hx
  go_enter Try.func67, Try.ntmps67
  have hcp : ∀ ty, (Builtin.copy_ #[22, 22] ty #[.slice (some ⟨w.heap.size, 0, none⟩) n n, .slice (some ⟨xb, 0, none⟩) 1 1]).run Try.prog (w.alloc (.cells (madeCells #[.int .i64 0] n) 2)) = .ok (.int .i64 1) ((w.alloc (.cells (madeCells #[.int .i64 0] n) 2)).setRow w.heap.size (fl z n 1).toArray) := fun ty => by
    have h := run_copy_row Try.prog (w.alloc (.cells (madeCells #[.int .i64 0] n) 2)) 22 22 ty 2 w.heap.size 0 n n ⟨xb, 0, none⟩ 1 1 _ 2 [.int .i64 z] Try.underlying22 sz2 hg0 (show 1 = min 1 n by omega) (fun j v hj => by
      match j with
      | 0 => simp at hj; subst hj; exact hx1
      | j + 1 => simp at hj) (by simp; omega) (by simp [Value.oneCell'])
    rw [h]
    have e : (List.replicate n (Value.int .i64 0)).toArray.toList.take 0 ++ [Value.int .i64 z] ++ (List.replicate n (Value.int .i64 0)).toArray.toList.drop (0 + [Value.int .i64 z].length) = fl z n 1 := by simp [fl]
    rw [e]
    rfl
  go_wp2_with (first | (go_at_call 71; refine (mul_any n (by omega) _).mono ?_; rintro e w' ⟨rfl, hw⟩; rw [hw]; clear hw))
  have HR0 : Hid (((w.alloc (.cells (madeCells #[.int .i64 0] n) 2)).setRow w.heap.size (fl z n 1).toArray).heap[w.heap.size]? = some (.cells (fl z n 1).toArray 2 (0, 0))) := setRow_heap _ _ _ _ _ _ hg0
  have HX0 : Hid (Nx w ((w.alloc (.cells (madeCells #[.int .i64 0] n) 2)).setRow w.heap.size (fl z n 1).toArray)) := below_setRow (Nx.alloc (Nx.refl _) _) (Nat.le_refl _) _
  generalize (w.alloc (.cells (madeCells #[.int .i64 0] n) 2)).setRow w.heap.size (fl z n 1).toArray = w1 at *
  clear hcp hg0 hx1 hmk
  go_loopw [8] (fun s8 wr => ∃ i : Nat, 1 ≤ i ∧ i ≤ n ∧ s8 = .int .i64 (i : Int) ∧ Hid (wr.heap[w.heap.size]? = some (.cells (fl z n i).toArray 2 (0, 0))) ∧ Hid (Nx w wr)) (fun s8 _ => n - (intOf s8).toNat)
  case atStart => exact ⟨1, Nat.le_refl _, hn, rfl, HR0, HX0⟩
  clear HR0 HX0
  obtain ⟨i, hi1, hin, rfl, HR, HX⟩ := hrel
  by_cases hi : i = n
  · subst hi
    have d2 : decide ((i : Int) < (i : Int)) = false := decide_eq_false (by omega)
    go_wp2
    go_ret
    refine ⟨rfl, ?_, HX.out⟩
    rw [← fl_ints]; exact HR.out
  have d2 : decide ((i : Int) < (n : Int)) = true := decide_eq_true (by omega)
  go_wp2_with fail
  have hlt : i < n := by omega
  obtain ⟨j, hj⟩ : ∃ j, j = min i (n - i) := ⟨_, rfl⟩
  have HJ : Hid (j = min i (n - i)) := hj
  have hj1 : 1 ≤ j := by omega
  have hj2 : i + j ≤ n := by omega
  clear hj
  have hcp : ∀ ty, (Builtin.copy_ #[22, 22] ty #[.slice (some ⟨w.heap.size, i, none⟩) (n - i) (n - i), .slice (some ⟨w.heap.size, 0, none⟩) i n]).run Try.prog wr.drew = .ok (.int .i64 (j : Int)) (wr.drew.setRow w.heap.size (fl z n (i + j)).toArray) := fun ty => by
    have h := run_copy_row Try.prog wr.drew 22 22 ty 2 w.heap.size i (n - i) (n - i) ⟨w.heap.size, 0, none⟩ i n _ 2 (List.replicate j (.int .i64 z)) Try.underlying22 sz2 HR.out (by rw [List.length_replicate]; exact HJ.out) (fun k v hk => by
      have hkj : k < j := by have := (List.getElem?_eq_some_iff.1 hk).1; simpa using this
      have hv : v = .int .i64 z := by have := List.getElem?_replicate (n := j) (a := Value.int .i64 z) (i := k); rw [this, if_pos hkj] at hk; exact (Option.some.inj hk).symm
      subst hv
      have := HJ.out
      have hki : k < i := by omega
      have e : (⟨w.heap.size, 0, none⟩ : Addr).add k = ⟨w.heap.size, k, none⟩ := by unfold Addr.add; split <;> simp_all
      rw [e]
      have hr : wr.drew.heap[w.heap.size]? = _ := HR.out
      simp only [World.cell?, hr]
      simpa using fl_get z n i k hki) (by rw [List.length_replicate]; have := fl_len z n i (by omega); simp only [List.size_toArray, this]; omega) (by simp [Value.oneCell'])
    rw [h, List.length_replicate]
    have e : (fl z n i).toArray.toList.take i ++ List.replicate j (Value.int .i64 z) ++ (fl z n i).toArray.toList.drop (i + j) = fl z n (i + j) := by
      have := fl_splice z n i j hj2
      simpa [splice] using this
    rw [e]
    rfl
  go_region
  go_wp2
  refine ⟨⟨i + j, by omega, hj2, rfl, setRow_heap wr.drew _ _ _ _ _ HR.out, below_setRow HX.out.drew (Nat.le_refl _) _⟩, ?_⟩
  show n - ((i : Int) + (j : Int)).toNat < n - (i : Int).toNat
  omega
end Go.Proofs.Yticooljejlkbfaa
