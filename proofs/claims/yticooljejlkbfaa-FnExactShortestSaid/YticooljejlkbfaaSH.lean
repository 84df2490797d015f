import Derived.Test.YticooljejlkbfaaSE
namespace Go.Proofs.Yticooljejlkbfaa
open Go.RowKit Go.Sort
set_option linter.unusedVariables false
set_option maxRecDepth 100000

theorem kp_at {ws : List Wk} (h : KP ws) {i j : Nat} (hi : i < ws.length) (hj : j < ws.length) (e : (wkat ws i).key = (wkat ws j).key) : i = j := by
  have hp := List.pairwise_iff_getElem.1 h.pw
  rw [wkat_eq hi, wkat_eq hj] at e
  rcases Nat.lt_trichotomy i j with c | c | c
  · exact absurd e (hp i j hi hj c)
  · exact c
  · exact absurd e.symm (hp j i hj hi c)
theorem KP.ku {ws : List Wk} (h : KP ws) : KU ws := fun x hx y hy e => by
  obtain ⟨i, hi, rfl⟩ := mem_wkat hx
  obtain ⟨j, hj, rfl⟩ := mem_wkat hy
  rw [kp_at h hi hj e]
theorem set_map {ws : List Wk} (h : KP ws) {i : Nat} (hi : i < ws.length) {x : Wk} (e : (wkat ws i).key = x.key) : ws.map (fun y => if y.key = x.key then x else y) = ws.set i x := by
  apply List.ext_getElem
  · simp
  · intro j h1 h2
    have hj : j < ws.length := by simpa using h1
    rw [List.getElem_map, List.getElem_set]
    by_cases c : i = j
    · subst c
      rw [if_pos rfl, if_pos (by rw [← wkat_eq hi]; exact e)]
    · rw [if_neg c, if_neg]
      intro e'
      rw [← wkat_eq hj] at e'
      exact c (kp_at h hi hj (e.trans e'.symm))
theorem see_yes {seen : List Wk} (h : KP seen) {i : Nat} (hi : i < seen.length) {x : Wk} (e : (wkat seen i).key = x.key) : seeOne seen x = seen.set i x := by
  unfold seeOne
  rw [if_pos (hasK_iff.2 ⟨_, wkat_mem hi, e⟩), set_map h hi e]
theorem see_no {seen : List Wk} {x : Wk} (h : hasK seen x.key = false) : seeOne seen x = seen ++ [x] := by
  unfold seeOne
  rw [h]; rfl
theorem see_kp {seen : List Wk} {x : Wk} (h : KP seen) : KP (seeOne seen x) := by
  by_cases hk : hasK seen x.key = true
  · obtain ⟨y, hy, e⟩ := hasK_iff.1 hk
    unfold KP at h ⊢
    unfold seeOne
    rw [if_pos hk, List.map_map]
    have e1 : seen.map ((fun x => x.key) ∘ fun y => if y.key = x.key then x else y) = seen.map (·.key) := by
      apply List.map_congr_left
      intro z _
      simp only [Function.comp]
      split
      · rename_i g; exact g.symm
      · rfl
    rw [e1]; exact h
  · have hk' : hasK seen x.key = false := by simpa using hk
    rw [see_no hk']
    rw [hasK_iff] at hk
    unfold KP at h ⊢
    rw [List.map_append, List.nodup_append]
    refine ⟨h, by simp, fun a ha b hb e => ?_⟩
    simp at hb
    obtain ⟨z, hz, rfl⟩ := List.mem_map.1 ha
    exact hk ⟨z, hz, e.trans hb⟩
theorem see_up {seen fresh : List Wk} {j : Nat} (hj : j < fresh.length) : seeW seen (fresh.take (j + 1)) = seeOne (seeW seen (fresh.take j)) (wkat fresh j) := by
  unfold seeW
  rw [List.take_succ_eq_append_getElem hj, List.foldl_append, wkat_eq hj]
  rfl
theorem see_len (seen : List Wk) (x : Wk) : (seeOne seen x).length ≤ seen.length + 1 := by
  unfold seeOne
  split
  · simp
  · simp
theorem seeW_len (seen fresh : List Wk) : (seeW seen fresh).length ≤ seen.length + fresh.length := by
  induction fresh generalizing seen with
  | nil => simp [seeW]
  | cons x l ih =>
    have h1 := ih (seeOne seen x)
    have h2 := see_len seen x
    show (seeW (seeOne seen x) l).length ≤ _
    simp
    omega
theorem seeW_kp {seen fresh : List Wk} (h : KP seen) : KP (seeW seen fresh) := by
  induction fresh generalizing seen with
  | nil => exact h
  | cons x l ih => exact ih (see_kp h)
theorem ownK_lt {C : Nat} {w : World} {v : Value} {ws : List Wk} (h : OwnK C w v ws) : ∀ g, v.ownBlock = some g → C ≤ g ∧ g < w.heap.size := by
  obtain ⟨F, h1, _⟩ := h
  exact own_lt h1
/-- seen under way: j fresh ones put in -/
structure SW (C j : Nat) (w0 w : World) (v v' u : Value) (seen fresh : List Wk) : Prop where
  su : OwnK C w u (seeW seen (fresh.take j))
  fr : OwnK C w v' fresh
  at_ : ∀ g, u.ownBlock = some g → v.ownBlock = some g ∨ w0.heap.size ≤ g
  on : Onl v.ownBlock w0 w
theorem SW.ap {C j : Nat} {w0 w : World} {v v' u : Value} {seen fresh : List Wk} (h : SW C j w0 w v v' u seen fresh) (hap : ∀ g, v.ownBlock = some g → v'.ownBlock ≠ some g) (hlt : ∀ g, v'.ownBlock = some g → g < w0.heap.size) : ∀ g, v'.ownBlock = some g → u.ownBlock ≠ some g := fun g e e' => by
  rcases h.at_ g e' with h1 | h1
  · exact hap g h1 e
  · have := hlt g e
    omega
theorem SW.next {C j : Nat} {w0 w w1 : World} {v v' u : Value} {seen fresh : List Wk} (h : SW C j w0 w v v' u seen fresh) (k : Nx w w1) : SW C j w0 w1 v v' u seen fresh :=
  ⟨h.su.next k, h.fr.next k, h.at_, h.on.trans (Onl.nx (o := none) k) (by simp)⟩

set_option maxHeartbeats 4000000 in
theorem l5See_any (C : Nat) (v v' : Value) (seen fresh : List Wk) (w : World) (h0 : OwnK C w v seen) (h1 : OwnK C w v' fresh) (hk : KP seen) (hap : ∀ g, v.ownBlock = some g → v'.ownBlock ≠ some g) (hl : seen.length + fresh.length ≤ 1000000) (hC : C ≤ w.heap.size) :
    Calls Try.prog 15 #[v, v'] w fun e w' => ∃ u, e = .returned u ∧ OwnK C w' u (seeW seen fresh) ∧ (∀ g, u.ownBlock = some g → v.ownBlock = some g ∨ w.heap.size ≤ g) ∧ Onl v.ownBlock w w' := by
  obtain ⟨ii, hi, hz0, hz1, hz2⟩ := info_parts infoWk
  have HK : Hid (KP seen) := hk
  have HC : Hid (C ≤ w.heap.size) := hC
  have HAP : Hid (∀ g, v.ownBlock = some g → v'.ownBlock ≠ some g) := hap
  have HLT : Hid (∀ g, v'.ownBlock = some g → g < w.heap.size) := fun g e => (ownK_lt h1 g e).2
  have HS0 : Hid (SW C 0 w w v v' v seen fresh) := ⟨h0, h1, fun g e => Or.inl e, Onl.refl _ _⟩
  have HL : Hid (seen.length + fresh.length ≤ 1000000) := hl
  obtain ⟨a, c, hv⟩ := h0.slice
  obtain ⟨a', c', rfl⟩ := h1.slice
  have hfl : fresh.length ≤ 1000000 := by omega
  generalize hz : fresh.length = n at *
  have HZ : Hid (fresh.length = n) := hz
  clear hz h0 h1 hk hap hC hl
  subst hv
  go_enter Try.func15, Try.ntmps15
  go_wp2
  go_loopw [0, 5, 6] (fun u i _ wr => ∃ j : Nat, j ≤ n ∧ i = .int .i64 j ∧ Hid (SW C j w wr (.slice a seen.length c) (.slice a' n c') u seen fresh)) (fun _ i _ _ => n - (intOf i).toNat)
  case atStart => exact ⟨0, Nat.zero_le _, rfl, HS0⟩
  clear HS0
  obtain ⟨j, hjn, rfl, HS⟩ := hrel
  obtain ⟨ua, uc, hus⟩ := HS.out.su.slice
  generalize hun : (seeW seen (fresh.take j)).length = un at *
  have HUN : Hid ((seeW seen (fresh.take j)).length = un) := hun
  subst hus
  clear hun
  by_cases hlt : j < n
  case neg =>
    have ej : j = n := by omega
    have HF : Hid (OwnK C wr (.slice ua un uc) (seeW seen fresh)) := by
      unfold Hid
      have e : fresh.take j = fresh := by rw [ej, ← HZ.out, List.take_length]
      rw [← e]; exact HS.out.su
    have hnl : ¬ (j : Int) < n := by omega
    clear ej
    go_wp2
    go_ret
    exact ⟨_, rfl, HF.out, HS.out.at_, HS.out.on⟩
  have HJ : Hid (j < fresh.length) := by unfold Hid; rw [HZ.out]; exact hlt
  obtain ⟨g, ev, kv, rfl, _, _, _, _, c2, _, hk, _⟩ := HS.out.fr.at HJ.out
  have HKV : Hid (OwnI C wr kv (wkat fresh j).key) := hk
  obtain ⟨ka, kc, hkv⟩ := hk.slice
  generalize (wkat fresh j).key.length = kn at hkv
  subst hkv
  have hlt' : (j : Int) < n := by omega
  clear hk
  go_wp2_with fail
  refine (l5Find_any C C _ _ (seeW seen (fresh.take j)) (wkat fresh j).key _ (by exact HS.out.su) (by exact HKV.out.held)).mono ?_
  rintro e w1 ⟨rfl, hx⟩
  have HS1 : Hid (SW C j w w1 (.slice a seen.length c) (.slice (some ⟨g, 0, none⟩) n c') (.slice ua un uc) seen fresh) := HS.out.next hx
  clear hx HS c2 HKV
  have HUP : Hid (seeW seen (fresh.take (j + 1)) = seeOne (seeW seen (fresh.take j)) (wkat fresh j)) := see_up HJ.out
  have HKP : Hid (KP (seeW seen (fresh.take j))) := seeW_kp HK.out
  have HAPU : Hid (∀ q, (Value.slice (some ⟨g, 0, none⟩) n c').ownBlock = some q → (Value.slice ua un uc).ownBlock ≠ some q) := HS1.out.ap HAP.out HLT.out
  obtain ⟨g2, ev, kv, hg2, _, _, c0, c1, c2, he, hk, _⟩ := HS1.out.fr.at HJ.out
  have hgg : g2 = g := by simp at hg2; exact hg2.symm
  subst hgg
  have HEV : Hid (OwnI C w1 ev (wkat fresh j).E) := he
  have HKV : Hid (OwnI C w1 kv (wkat fresh j).key) := hk
  obtain ⟨ea, ec, hev⟩ := he.slice
  obtain ⟨ka2, kc2, hkv⟩ := hk.slice
  generalize (wkat fresh j).E.length = en at hev
  generalize (wkat fresh j).key.length = kn2 at hkv
  subst hev hkv
  have hunl : un ≤ 1000000 := by
    have h1 := seeW_len seen (fresh.take j)
    have h2 := HUN.out
    have h3 := HL.out
    have h4 : (fresh.take j).length ≤ n := by rw [List.length_take, HZ.out]; omega
    omega
  have HZW : Hid (w.heap.size ≤ w1.heap.size) := HS1.out.on.size
  clear he hk hg2
  by_cases hneg : fnd (seeW seen (fresh.take j)) (wkat fresh j).key < 0
  · have d1 : decide (fnd (seeW seen (fresh.take j)) (wkat fresh j).key < 0) = true := by simpa using hneg
    have HNO : Hid (seeW seen (fresh.take (j + 1)) = seeW seen (fresh.take j) ++ [wkat fresh j]) := by unfold Hid; rw [HUP.out, see_no (fnd_no hneg)]
    obtain ⟨F, hrow0, hF0⟩ := HS1.out.su
    have HAPP : Hid (∀ w7 v7 ob, (w1.alloc ob).grownBy w7 (Value.slice ua un uc).ownBlock → w7.ownsRow C 39 3 v7 (un + 1) ((List.range (un * 3)).map F ++ [.slice ea en ec, .int .i64 (wkat fresh j).c, .slice ka2 kn2 kc2]) → OwnK C w7 v7 (seeW seen (fresh.take (j + 1))) ∧ OwnK C w7 (.slice (some ⟨g2, 0, none⟩) n c') fresh) := by
      intro w7 v7 ob hgr hrow
      rw [HNO.out]
      refine ⟨OwnK.app (F := F) (u := .slice ua un uc) hrow0 hF0 HEV.out HKV.out ob hgr (by rw [HUN.out]; exact hrow), HS1.out.fr.far hrow0 ob hgr HAPU.out⟩
    rw [HUN.out] at hrow0
    have HROW : Hid (w1.ownsRow C 39 3 (.slice ua un uc) un ((List.range (un * 3)).map F)) := hrow0
    generalize fnd (seeW seen (fresh.take j)) (wkat fresh j).key = fi at *
    generalize (wkat fresh j).c = cj at *
    clear hneg hrow0 hF0 HEV HKV HUP HNO
    go_wp2_with (at_builtin; refine wpList_append_own_at _ rfl _ _ 40 rfl C 39 ii (.agg #[.slice none 0 0, .int .i64 0, .slice none 0 0]) 3 56 Try.underlying40 hi hz0 hz1 hz2 rfl (by decide) _ _ _ rfl (World.ownsRow.alloc HROW.out _) ⟨w1.heap.size, 0, none⟩ 1 1 [.slice ea en ec, .int .i64 cj, .slice ka2 kn2 kc2] rfl rfl (fun j u hj => new_cells w1 _ _ _ rfl j u hj) (by intro u hu; simp at hu; rcases hu with rfl | rfl | rfl <;> rfl) (by unfold maxLen; omega) (by omega) (by rw [size_alloc']; have := HZW.out; have := HC.out; omega) ?_)
    intro v7 w7 hown hgrow _ hat
    have HSW : Hid (SW C (j + 1) w w7 (.slice a seen.length c) (.slice (some ⟨g2, 0, none⟩) n c') v7 seen fresh) := by
      have hp := HAPP.out w7 v7 _ hgrow hown
      refine ⟨hp.1, hp.2, fun q e => ?_, (HS1.out.on.trans (Onl.nx (o := none) (box1 w1 _)) (by simp)).trans (grown_onl hgrow) (fun q e => HS1.out.at_ q e)⟩
      rcases hat with h | h
      · exact HS1.out.at_ q (h ▸ e)
      · rw [h] at e
        have := Option.some.inj e
        have := HZW.out
        right
        omega
    clear hown hgrow hat c0 c1 c2
    go_wp2
    go_roundw
    case rel => exact ⟨j + 1, by omega, by go_num, HSW⟩
    case measure => simp [intOf]; omega
  · obtain ⟨q, hq, hfe, hqk⟩ := fnd_yes (show 0 ≤ fnd (seeW seen (fresh.take j)) (wkat fresh j).key by omega)
    have HYES : Hid (seeW seen (fresh.take (j + 1)) = (seeW seen (fresh.take j)).set q (wkat fresh j)) := by unfold Hid; rw [HUP.out, see_yes HKP.out hq hqk]
    obtain ⟨gu, eu, ku, hgu, _, _, x0, x1, x2, _, _, hfz⟩ := HS1.out.su.at hq
    subst hgu
    have hqu : q < un := by rw [← HUN.out]; exact hq
    have hqu' : (q : Int) < un := by omega
    have z0 := hfz (q * 3)
    have z1 := hfz (q * 3 + 1)
    have z2 := hfz (q * 3 + 2)
    have HSW : Hid (SW C (j + 1) w (((w1.setCell ⟨gu, q * 3, none⟩ (.slice ea en ec)).setCell ⟨gu, q * 3 + 1, none⟩ (.int .i64 (wkat fresh j).c)).setCell ⟨gu, q * 3 + 2, none⟩ (.slice ka2 kn2 kc2)) (.slice a seen.length c) (.slice (some ⟨g2, 0, none⟩) n c') (.slice (some ⟨gu, 0, none⟩) un uc) seen fresh) := by
      have ON : Onl (some gu) w1 (((w1.setCell ⟨gu, q * 3, none⟩ (.slice ea en ec)).setCell ⟨gu, q * 3 + 1, none⟩ (.int .i64 (wkat fresh j).c)).setCell ⟨gu, q * 3 + 2, none⟩ (.slice ka2 kn2 kc2)) := (((Onl.refl (some gu) w1).set (Or.inl rfl) _ _).set (Or.inl rfl) _ _).set (Or.inl rfl) _ _
      refine ⟨?_, HS1.out.fr.onl ON HS1.out.su.wrow HAPU.out, HS1.out.at_, HS1.out.on.trans ON (fun q e => HS1.out.at_ q e)⟩
      rw [HYES.out]
      exact HS1.out.su.put hq HEV.out HKV.out
    have d1 : decide (fnd (seeW seen (fresh.take j)) (wkat fresh j).key < 0) = false := by simpa using hneg
    rw [hfe] at d1 ⊢
    generalize (wkat fresh j).c = cj at *
    clear hneg hfe hqk hfz HEV HKV HUP HYES hq HS1
    go_wp2
    go_roundw
    case rel => exact ⟨j + 1, by omega, by go_num, HSW⟩
    case measure => simp [intOf]; omega
end Go.Proofs.Yticooljejlkbfaa
