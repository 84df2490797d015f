import Derived.Test.YtifefpeefcjabaaAC
namespace Go.Proofs.Ytifefpeefcjabaa
open Go.RowKit
set_option linter.unusedVariables false
set_option maxRecDepth 100000

/-- the longest end of a list, from place k on, that is a word -/
def lngW (ws : List (List Int)) (x : List Int) : Nat → Nat → Int
  | _, 0 => -1
  | k, f + 1 => if 0 ≤ stW ws (x.drop k) then stW ws (x.drop k) else lngW ws x (k + 1) f
theorem iat_drop (x : List Int) (k i : Nat) : iat (x.drop k) i = iat x (k + i) := by simp [iat, List.getD]
theorem HInts.drop {B : Nat} {w : World} {a : Option Addr} {n c k c' : Nat} {xs : List Int} (h : HInts B w (.slice a n c) xs) (hk : k ≤ n) (a' : Option Addr) (ha : ∀ b off, a = some ⟨b, off, none⟩ → 0 < n - k → a' = some ⟨b, off + k, none⟩) : HInts B w (.slice a' (n - k) c') (xs.drop k) := by
  obtain ⟨a0, cap, e, hn, hc⟩ := h
  simp only [Value.slice.injEq] at e
  obtain ⟨rfl, rfl, rfl⟩ := e
  refine ⟨a', c', by rw [List.length_drop], by rw [List.length_drop]; omega, fun h0 => ?_⟩
  rw [List.length_drop] at h0
  obtain ⟨b, off, rfl, hB, hb, hcc⟩ := hc (by omega)
  refine ⟨b, off + k, ha b off rfl h0, hB, hb, fun i hi => ?_⟩
  rw [List.length_drop] at hi
  show w.cell? ⟨b, off + k + i, none⟩ = _
  rw [iat_drop, Nat.add_assoc]
  exact hcc (k + i) (by omega)

set_option maxHeartbeats 2000000 in
theorem l3Longest_any (B B' : Nat) (v v' : Value) (ws : List (List Int)) (xs : List Int) (k0 : Nat) (w : World) (h0 : HWords B w v ws) (h1 : HInts B' w v' xs) (ha : AscW ws) (hl : ws.length ≤ 1048576) (hx : xs.length ≤ 1048576) (hk0 : k0 ≤ xs.length + 1) (hcp : CapOk v') :
    Calls Try.prog 31 #[v, v', .int .i64 k0] w fun e w' => e = .returned (.int .i64 (lngW ws xs k0 (xs.length + 1 - k0))) ∧ Nx w w' := by
  have HH : Hid (HWords B w v ws) := h0
  have HX : Hid (HInts B' w v' xs) := h1
  have HA : Hid (AscW ws) := ha
  have HL : Hid (ws.length ≤ 1048576) := hl
  obtain ⟨a, cap, rfl, hn, hk⟩ := h1
  obtain ⟨a', n', c', e, hcp⟩ := hcp
  simp only [Value.slice.injEq] at e
  obtain ⟨rfl, rfl, rfl⟩ := e
  clear ha h0 hk
  generalize hz : xs.length = n at *
  have HZ : Hid (xs.length = n) := hz
  have HC : Hid (n ≤ cap) := hcp
  clear hz hcp
  go_enter Try.func31, Try.ntmps31
  go_wp2
  go_loopw [7, 8] (fun i z wr => ∃ k : Nat, k ≤ n + 1 ∧ i = .int .i64 k ∧ Hid (lngW ws xs k0 (n + 1 - k0) = lngW ws xs k (n + 1 - k)) ∧ Hid (Nx w wr)) (fun i _ _ => n + 1 - (intOf i).toNat)
  case atStart => exact ⟨k0, hk0, rfl, rfl, Nx.refl _⟩
  obtain ⟨k, hkn, rfl, HE, HN⟩ := hrel
  by_cases hlt : k ≤ n
  · have hlt' : (k : Int) ≤ n := by omega
    have HE' : Hid (lngW ws xs k0 (n + 1 - k0) = if 0 ≤ stW ws (xs.drop k) then stW ws (xs.drop k) else lngW ws xs (k + 1) (n + 1 - (k + 1))) := by
      unfold Hid
      rw [HE.out, show n + 1 - k = (n + 1 - (k + 1)) + 1 by omega, lngW]
    by_cases hck : cap = k
    · have hnk : n - k = 0 := by have := HC.out; omega
      have HD : Hid (HInts B' wr (.slice a (n - k) 0) (xs.drop k)) := (HX.out.next HN.out).drop (by omega) a (fun b off _ h => by omega)
      subst hck
      clear hnk
      go_wp2_with fail
      refine (l3State_any B B' _ _ ws (xs.drop cap) _ (HH.out.next HN.out) HD.out HA.out HL.out).mono ?_
      rintro e w1 ⟨rfl, hx1⟩
      have HN1 : Hid (Nx w w1) := HN.out.trans hx1
      clear hx1 HN HD
      generalize stW ws (xs.drop cap) = z at *
      by_cases hz : 0 ≤ z
      · have hd : decide (0 ≤ z) = true := by simpa using hz
        have HF : Hid (z = lngW ws xs k0 (n + 1 - k0)) := by unfold Hid; rw [HE'.out, if_pos hz]
        clear hz
        go_wp2
        go_ret
        exact ⟨ret_int HF.out, HN1.out⟩
      · have hd : decide (0 ≤ z) = false := by simpa using hz
        have HF : Hid (lngW ws xs k0 (n + 1 - k0) = lngW ws xs (cap + 1) (n + 1 - (cap + 1))) := by unfold Hid; rw [HE'.out, if_neg hz]
        clear hz
        go_wp2
        go_roundw
        case rel => exact ⟨cap + 1, by omega, by go_num, HF, HN1⟩
        case measure => simp [intOf]; omega
    · have HD : Hid (HInts B' wr (.slice (Option.map (fun x => x.add k) a) (n - k) (cap - k)) (xs.drop k)) := (HX.out.next HN.out).drop (by omega) _ (fun b off e h => by rw [e]; exact congrArg some (Addr.add_lit _ _ _))
      go_wp2_with fail
      refine (l3State_any B B' _ _ ws (xs.drop k) _ (HH.out.next HN.out) HD.out HA.out HL.out).mono ?_
      rintro e w1 ⟨rfl, hx1⟩
      have HN1 : Hid (Nx w w1) := HN.out.trans hx1
      clear hx1 HN HD
      generalize stW ws (xs.drop k) = z at *
      by_cases hz : 0 ≤ z
      · have hd : decide (0 ≤ z) = true := by simpa using hz
        have HF : Hid (z = lngW ws xs k0 (n + 1 - k0)) := by unfold Hid; rw [HE'.out, if_pos hz]
        clear hz
        go_wp2
        go_ret
        exact ⟨ret_int HF.out, HN1.out⟩
      · have hd : decide (0 ≤ z) = false := by simpa using hz
        have HF : Hid (lngW ws xs k0 (n + 1 - k0) = lngW ws xs (k + 1) (n + 1 - (k + 1))) := by unfold Hid; rw [HE'.out, if_neg hz]
        clear hz
        go_wp2
        go_roundw
        case rel => exact ⟨k + 1, by omega, by go_num, HF, HN1⟩
        case measure => simp [intOf]; omega
  have ek : k = n + 1 := by omega
  have hlt' : ¬ (k : Int) ≤ n := by omega
  have HF : Hid (-1 = lngW ws xs k0 (n + 1 - k0)) := by unfold Hid; rw [HE.out, ek, Nat.sub_self, lngW]
  clear hlt ek
  go_wp2
  go_ret
  exact ⟨ret_int HF.out, HN.out⟩
end Go.Proofs.Ytifefpeefcjabaa
