import Derived.Test.YtifefpeefcjabaaDE
namespace Go.Proofs.Ytifefpeefcjabaa
open Go.RowKit Go.Maps
set_option linter.unusedVariables false
set_option maxRecDepth 100000

/-- the nodes by number -/
structure NR (n : Nat) (w : World) (bl : Nat → Nat) (num len la mu : Nat → Int) (bd : Nat → Bool) (par fl mv : Nat → Value) : Prop where
  nd : ∀ s, s < n → Blk w (bl s) (node (num s) (len s) (la s) (mu s) (bd s) (par s) (fl s) (mv s))
  inj : ∀ s t, s < n → t < n → bl s = bl t → s = t
theorem NR.bad {n : Nat} {w : World} {bl : Nat → Nat} {num len la mu : Nat → Int} {bd : Nat → Bool} {par fl mv : Nat → Value} (h : NR n w bl num len la mu bd par fl mv) {t : Nat} (ht : t < n) (z : Bool) : NR n (w.setCell ⟨bl t, 4, none⟩ (.bool z)) bl num len la mu (upd bd t z) par fl mv := by
  refine ⟨fun s hs => ?_, h.inj⟩
  by_cases e : s = t
  · subst e
    rw [upd_at]
    exact (h.nd s hs).set 4 _
  · rw [upd_ne _ _ e]
    exact (h.nd s hs).setOther (fun e' => e (h.inj s t hs ht e')) _ _
theorem NR.must {n : Nat} {w : World} {bl : Nat → Nat} {num len la mu : Nat → Int} {bd : Nat → Bool} {par fl mv : Nat → Value} (h : NR n w bl num len la mu bd par fl mv) {t : Nat} (ht : t < n) (z : Int) : NR n (w.setCell ⟨bl t, 3, none⟩ (.int .i64 z)) bl num len la (upd mu t z) bd par fl mv := by
  refine ⟨fun s hs => ?_, h.inj⟩
  by_cases e : s = t
  · subst e
    rw [upd_at]
    exact (h.nd s hs).set 3 _
  · rw [upd_ne _ _ e]
    exact (h.nd s hs).setOther (fun e' => e (h.inj s t hs ht e')) _ _
theorem NR.next {n : Nat} {w w' : World} {bl : Nat → Nat} {num len la mu : Nat → Int} {bd : Nat → Bool} {par fl mv : Nat → Value} (h : NR n w bl num len la mu bd par fl mv) (k : Nx w w') : NR n w' bl num len la mu bd par fl mv := ⟨fun s hs => (h.nd s hs).next k, h.inj⟩
/-- new ones below k, old ones from k on -/
def mix {α : Type} (M m : Nat → α) (k s : Nat) : α := if s < k then M s else m s
theorem mix_up {α : Type} (M m : Nat → α) (k : Nat) : upd (mix M m k) k (M k) = mix M m (k + 1) := by
  funext s
  unfold upd mix
  by_cases h : s = k
  · subst h; simp
  · by_cases h2 : s < k
    · rw [if_neg h, if_pos h2, if_pos (by omega)]
    · rw [if_neg h, if_neg h2, if_neg (by omega)]
theorem mix_lo {α : Type} (M m : Nat → α) {k s : Nat} (h : s < k) : mix M m k s = M s := if_pos h
theorem mix_hi {α : Type} (M m : Nat → α) {k s : Nat} (h : ¬ s < k) : mix M m k s = m s := if_neg h
theorem mix_all {α : Type} (M m : Nat → α) (n : Nat) : ∀ s, s < n → mix M m n s = M s := fun s h => if_pos h
theorem NR.congr {n : Nat} {w : World} {bl : Nat → Nat} {num len la mu mu' : Nat → Int} {bd bd' : Nat → Bool} {par fl mv : Nat → Value} (h : NR n w bl num len la mu bd par fl mv) (h1 : ∀ s, s < n → mu s = mu' s) (h2 : ∀ s, s < n → bd s = bd' s) : NR n w bl num len la mu' bd' par fl mv :=
  ⟨fun s hs => by rw [← h1 s hs, ← h2 s hs]; exact h.nd s hs, h.inj⟩
theorem Fr.refl (n : Nat) (bl : Nat → Nat) (w : World) : Fr n bl w w := ⟨rfl, rfl, rfl, Nat.le_refl _, fun _ _ _ => rfl⟩

set_option maxHeartbeats 4000000 in
theorem inherit_any (m C : Nat) (v : Value) (w : World) (bl : Nat → Nat) (num len la mu M : Nat → Int) (bd D : Nat → Bool) (par fl mv : Nat → Value) (f : Nat → Nat) (hO : OwnP C w v ((List.range (m + 1)).map bl)) (hC : ∀ s, s < m + 1 → bl s < C) (h : NR (m + 1) w bl num len la mu bd par fl mv) (hm : m + 1 ≤ 2000) (hf : ∀ s, 1 ≤ s → s < m + 1 → fl s = ptr (bl (f s)) ∧ f s < s) (hM0 : M 0 = mu 0) (hD0 : D 0 = bd 0) (hM : ∀ s, 1 ≤ s → s < m + 1 → M s = jm (mu s) (M (f s))) (hD : ∀ s, 1 ≤ s → s < m + 1 → D s = (bd s || D (f s))) :
    Calls Try.prog 57 #[v] w fun r w' => r = .returned (.tuple #[]) ∧ NR (m + 1) w' bl num len la M D par fl mv ∧ OwnP C w' v ((List.range (m + 1)).map bl) ∧ Fr (m + 1) bl w w' := by
  have HC : Hid (∀ s, s < m + 1 → bl s < C) := hC
  have HF : Hid (∀ s, 1 ≤ s → s < m + 1 → fl s = ptr (bl (f s)) ∧ f s < s) := hf
  have HM : Hid (∀ s, 1 ≤ s → s < m + 1 → M s = jm (mu s) (M (f s))) := hM
  have HD : Hid (∀ s, 1 ≤ s → s < m + 1 → D s = (bd s || D (f s))) := hD
  have HO : Hid (OwnP C w v ((List.range (m + 1)).map bl)) := hO
  have HN0 : Hid (NR (m + 1) w bl num len la (mix M mu 1) (mix D bd 1) par fl mv) := h.congr (fun s hs => by
      by_cases e : s < 1
      · rw [mix_lo _ _ e, show s = 0 by omega, hM0]
      · rw [mix_hi _ _ e]) (fun s hs => by
      by_cases e : s < 1
      · rw [mix_lo _ _ e, show s = 0 by omega, hD0]
      · rw [mix_hi _ _ e])
  obtain ⟨a, c, rfl⟩ := hO.slice
  rw [List.length_map, List.length_range] at *
  obtain ⟨g, hag, _⟩ := HO.out.cell (i := 0) (by simp)
  subst hag
  have HCELL : Hid (∀ wr i, OwnP C wr (.slice (some ⟨g, 0, none⟩) (m + 1) c) ((List.range (m + 1)).map bl) → i < m + 1 → wr.cell? ⟨g, i, none⟩ = some (.pointer (some ⟨bl i, 0, none⟩))) := by
    intro wr i h1 h2
    obtain ⟨g', hg', hc'⟩ := h1.cell (i := i) (by simp; exact h2)
    rw [nat_range bl h2] at hc'
    have : g = g' := by simpa using hg'
    subst this
    exact hc'
  have hcm : m + 1 ≤ c := by
    rcases HO.out.2 with ⟨h1, _⟩ | ⟨g', cap, cur, h1, _, _, h2, _⟩
    · simp at h1
    · simp only [Value.slice.injEq, List.length_map, List.length_range] at h1 h2
      omega
  have hcM : c ≤ 9223372036854775807 := by
    rcases HO.out.2 with ⟨h1, _⟩ | ⟨g', cap, cur, h1, _, _, _, h2, _⟩
    · simp at h1
    · simp only [Value.slice.injEq] at h1
      unfold maxLen at h2
      omega
  have hl1 : (1 : Int) ≤ (m : Int) + 1 := by omega
  have wm1 : IntKind.i64.wrap ((m : Int) + 1 - 1) = (m : Int) := by rw [IntKind.wrap_i64]; omega
  have wm2 : ((m : Int) + 1 - 1) = (m : Int) := by omega
  clear hO hC hf hM hD hM0 hD0 h
  by_cases hc1 : c = 1
  · have hm0 : m = 0 := by omega
    have HFIN : Hid (NR (m + 1) w bl num len la M D par fl mv) := HN0.out.congr (fun s hs => mix_lo _ _ (by omega)) (fun s hs => mix_lo _ _ (by omega))
    subst hm0 hc1
    clear wm1 wm2
    go_enter Try.func57, Try.ntmps57
    go_wp2
    go_loop [3, 7] (fun _ i => i = .int .i64 0) (fun _ _ => 0)
    case atStart => rfl
    subst hrel
    go_wp2
    refine bodyPost_end (v := .tuple #[]) (by simp [results, Try.results57, go_sem]) rfl ⟨rfl, HFIN.out, HO.out, Fr.refl _ _ _⟩
  have hc2 : (1 : Int) ≤ c := by omega
  go_enter Try.func57, Try.ntmps57
  go_wp2
  go_loopw [3, 7] (fun _ i wr => ∃ k : Nat, k ≤ m ∧ i = .int .i64 k ∧ Hid (NR (m + 1) wr bl num len la (mix M mu (k + 1)) (mix D bd (k + 1)) par fl mv) ∧ Hid (OwnP C wr (.slice (some ⟨g, 0, none⟩) (m + 1) c) ((List.range (m + 1)).map bl)) ∧ Hid (Fr (m + 1) bl w wr)) (fun _ i _ => m - (intOf i).toNat)
  case atStart => exact ⟨0, Nat.zero_le _, rfl, HN0, HO, Fr.refl _ _ _⟩
  clear HN0 HO wm1 wm2
  obtain ⟨k, hkm, rfl, HN, HO, HR⟩ := hrel
  by_cases hlt : k < m
  case neg =>
    have ek : k = m := by omega
    subst ek
    have hnl : ¬ (k : Int) < k := by omega
    have HFIN : Hid (NR (k + 1) wr bl num len la M D par fl mv) := HN.out.congr (fun s hs => mix_lo _ _ hs) (fun s hs => mix_lo _ _ hs)
    clear hlt
    go_wp2
    refine bodyPost_end (v := .tuple #[]) (by simp [results, Try.results57, go_sem]) rfl ⟨rfl, HFIN.out, by first | exact HO.out | (rw [range_snoc]; exact HO.out), HR.out⟩
  have hlt' : (k : Int) < m := by omega
  have hft := HF.out (k + 1) (by omega) (by omega)
  have x0 : wr.cell? ⟨g, 1 + k, none⟩ = some (.pointer (some ⟨bl (k + 1), 0, none⟩)) := by rw [Nat.add_comm 1 k]; exact HCELL.out wr (k + 1) HO.out (by omega)
  have HM1 : Hid (M (k + 1) = jm (mu (k + 1)) (M (f (k + 1)))) := HM.out (k + 1) (by omega) (by omega)
  have HD1 : Hid (D (k + 1) = (bd (k + 1) || D (f (k + 1)))) := HD.out (k + 1) (by omega) (by omega)
  have NS := HN.out.nd (k + 1) (by omega)
  have NF := HN.out.nd (f (k + 1)) (by omega)
  rw [mix_hi _ _ (Nat.lt_irrefl _), mix_hi _ _ (Nat.lt_irrefl _), hft.1] at NS
  rw [mix_lo _ _ hft.2, mix_lo _ _ hft.2] at NF
  unfold ptr at NS
  have s4 : wr.cell? ⟨bl (k + 1), 4, none⟩ = some (.bool (bd (k + 1))) := NS.cell (i := 4) rfl
  have s6 : wr.cell? ⟨bl (k + 1), 6, none⟩ = some (.pointer (some ⟨bl (f (k + 1)), 0, none⟩)) := NS.cell (i := 6) rfl
  have z4 := NS.frozen 4
  have t4 : wr.cell? ⟨bl (f (k + 1)), 4, none⟩ = some (.bool (D (f (k + 1)))) := NF.cell (i := 4) rfl
  have HFT : Hid (fl (k + 1) = .pointer (some ⟨bl (f (k + 1)), 0, none⟩) ∧ f (k + 1) < k + 1) := hft
  have H2 : Hid (NR (m + 1) (wr.setCell ⟨bl (k + 1), 4, none⟩ (.bool (D (k + 1)))) bl num len la (mix M mu (k + 1)) (mix D bd (k + 1 + 1)) par fl mv) := by
    have := HN.out.bad (t := k + 1) (by omega) (D (k + 1))
    rw [mix_up] at this
    exact this
  have HO2 : Hid (OwnP C (wr.setCell ⟨bl (k + 1), 4, none⟩ (.bool (D (k + 1)))) (.slice (some ⟨g, 0, none⟩) (m + 1) c) ((List.range (m + 1)).map bl)) := own_store HO.out (HC.out _ (by omega)) _ _
  have HR2 : Hid (Fr (m + 1) bl w (wr.setCell ⟨bl (k + 1), 4, none⟩ (.bool (D (k + 1))))) := HR.out.set (by omega) _ _
  clear NS NF hft HN HO HR
  have hgo : ∀ w2 : World, Hid (NR (m + 1) w2 bl num len la (mix M mu (k + 1)) (mix D bd (k + 1 + 1)) par fl mv) → w2.cell? ⟨bl (k + 1), 3, none⟩ = some (.int .i64 (mu (k + 1))) ∧ w2.frozen? ⟨bl (k + 1), 3, none⟩ = false ∧ w2.cell? ⟨bl (k + 1), 6, none⟩ = some (.pointer (some ⟨bl (f (k + 1)), 0, none⟩)) ∧ w2.cell? ⟨bl (f (k + 1)), 3, none⟩ = some (.int .i64 (M (f (k + 1)))) ∧ Hid (NR (m + 1) (w2.setCell ⟨bl (k + 1), 3, none⟩ (.int .i64 (jm (mu (k + 1)) (M (f (k + 1)))))) bl num len la (mix M mu (k + 1 + 1)) (mix D bd (k + 1 + 1)) par fl mv) := by
    intro w2 h2
    have NS := h2.out.nd (k + 1) (by omega)
    have NF := h2.out.nd (f (k + 1)) (by have := HFT.out.2; omega)
    rw [mix_hi M mu (Nat.lt_irrefl _), HFT.out.1] at NS
    rw [mix_lo M mu HFT.out.2] at NF
    refine ⟨NS.cell (i := 3) rfl, NS.frozen 3, NS.cell (i := 6) rfl, NF.cell (i := 3) rfl, ?_⟩
    have := h2.out.must (t := k + 1) (by omega) (M (k + 1))
    rw [mix_up, HM1.out] at this
    exact this
  have HGO : Hid _ := hgo
  clear hgo
  cases hb : bd (k + 1)
  all_goals
    rw [hb] at s4 HD1
    simp only [Bool.true_or, Bool.false_or] at HD1
    rw [HD1.out] at H2 HO2 HR2
    clear hb HD1
    go_upto_region 4 with fail
    generalize hw2 : wr.setCell ⟨bl (k + 1), 4, none⟩ (.bool _) = w2 at *
    clear hw2 s4 s6 z4 t4 x0
    obtain ⟨u3, v3, u6, r3, HE⟩ := HGO.out w2 H2
    have HO3 : Hid (OwnP C (w2.setCell ⟨bl (k + 1), 3, none⟩ (.int .i64 (jm (mu (k + 1)) (M (f (k + 1)))))) (.slice (some ⟨g, 0, none⟩) (m + 1) c) ((List.range (m + 1)).map bl)) := own_store HO2.out (HC.out _ (by omega)) _ _
    have HR3 : Hid (Fr (m + 1) bl w (w2.setCell ⟨bl (k + 1), 3, none⟩ (.int .i64 (jm (mu (k + 1)) (M (f (k + 1))))))) := HR2.out.set (by omega) _ _
    clear H2 HO2 HR2 HFT HM1
    go_region_with (go_at_call 74; refine (joinMusts_any _ _ _).mono ?_; rintro e w6 ⟨rfl, rfl⟩)
    all_goals go_wp2
    all_goals
      go_roundw
      case rel => exact ⟨k + 1, by omega, by go_num, HE.out.next (Nx.refl _).drew, HO3.out.next (Nx.refl _).drew, ⟨HR3.out.os, HR3.out.tape, HR3.out.output, HR3.out.size, HR3.out.block⟩⟩
      case measure => simp [intOf]; omega
end Go.Proofs.Ytifefpeefcjabaa
