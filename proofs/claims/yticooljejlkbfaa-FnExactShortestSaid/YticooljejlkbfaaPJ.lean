import Derived.Test.YticooljejlkbfaaPI
namespace Go.Proofs.Yticooljejlkbfaa
open Go.RowKit Go.Sort Go.Maps
set_option linter.unusedVariables false
set_option maxRecDepth 100000

/-- the blocks of a heap -/
def hbl (q mb : Nat) (iv : Value) : List Nat := q :: mb :: iv.ownBlock.toList
theorem hbl_own {q mb g : Nat} {iv : Value} (h : iv.ownBlock = some g) : g ∈ hbl q mb iv := by simp [hbl, h]
theorem hbl_two {q mb g n c b : Nat} (h : b ∉ hbl q mb (.slice (some ⟨g, 0, none⟩) n c)) : b ∉ [g, mb] := by
  simp [hbl, Value.ownBlock] at h
  simp
  exact ⟨h.2.2, h.2.1⟩
theorem HE.hq {C : Nat} {w w' : World} {q sb g c mb : Nat} {K : Nat → Rk} {M : List Nat} {x : Nat} {D : DM} {L' : List Nat} {D' : DM} {nv : Nat} (h : HE C w w' q sb g c mb K M x D (fun _ => False) L' D') (hv : ∀ y ∈ M, y < nv) (hs : size D' ≤ M.length) : HQ C w' q sb (.slice (some ⟨g, 0, none⟩) L'.length c) mb K nv L' D' :=
  ⟨h.h, h.o, h.j, h.p, fun y hy => hv y ((h.e y).1 hy), by rw [h.l]; exact hs⟩
theorem QB.set {w : World} {q sb : Nat} {iv : Value} {mb : Nat} (h : QB w q sb iv mb) (v : Value) : QB (w.setCell ⟨q, 1, none⟩ v) q sb v mb := by
  unfold QB at *
  simp [World.setCell, Array.getElem?_modify, h]
/-- behind a put -/
structure PT (C : Nat) (w w' : World) (q sb mb : Nat) (iv : Value) (K : Nat → Rk) (nv : Nat) (L : List Nat) (x : Nat) (iv' : Value) (L' : List Nat) (D' : DM) : Prop where
  h : HQ C w' q sb iv' mb K nv L' D'
  e : ∀ y, y ∈ L' ↔ y ∈ L ∨ y = x
  b : ∀ g, iv'.ownBlock = some g → iv.ownBlock = some g ∨ w.heap.size ≤ g
  on : OnS (hbl q mb iv) w w'

set_option maxHeartbeats 8000000 in
theorem put_any (C q sb mb pp rb nv : Nat) (iv : Value) (K K' : Nat → Rk) (L : List Nat) (D : DM) (x : Nat) (w : World) (h : HQ C w q sb iv mb K nv L D) (hcm : CM w sb pp rb nv K') (hK : ∀ y, y ≠ x → K' y = K y) (hd : x ∈ L → ¬ rlt (K x) (K' x)) (hx : x < nv) (hnv : nv ≤ 6000) (hs : sb ∉ hbl q mb iv ∧ pp ∉ hbl q mb iv ∧ rb ∉ hbl q mb iv) (hC : C ≤ w.heap.size) :
    Calls Try.prog 63 #[.pointer (some ⟨q, 0, none⟩), .int .i64 (x : Int)] w fun e w' => ∃ v iv' L' D', e = .returned v ∧ PT C w w' q sb mb iv K' nv L x iv' L' D' := by
  obtain ⟨ii, hi, hz0, hz1, hz2⟩ := info_parts infoInt
  have H : Hid (HQ C w q sb iv mb K nv L D) := h
  have HCM : Hid (CM w sb pp rb nv K') := hcm
  have HK : Hid (∀ y, y ≠ x → K' y = K y) := hK
  have HS : Hid (sb ∉ hbl q mb iv ∧ pp ∉ hbl q mb iv ∧ rb ∉ hbl q mb iv) := hs
  have HLN : Hid (L.length ≤ 6000) := by have := nodup_len nv L h.j.nodup h.v; unfold Hid; omega
  have HSZ : Hid (size D ≤ L.length) := h.s
  have hxb : x ≤ 6000 := by omega
  have HXV : Hid (x < nv) := hx
  have HC : Hid (C ≤ w.heap.size) := hC
  obtain ⟨c0, hrun, hat⟩ := look_run h.h.m (x := x) (by omega)
  have k2 : w.cell? ⟨q, 2, none⟩ = some (.map (some mb)) := h.h.q.blk.cell (i := 2) rfl
  obtain ⟨av, cv, hvs⟩ := h.h.i.slice
  rw [ints_len] at hvs
  have k1 : w.cell? ⟨q, 1, none⟩ = some (.slice av L.length cv) := by rw [← hvs]; exact h.h.q.blk.cell (i := 1) rfl
  by_cases hin : has D (kv x) = true
  · have hxL : x ∈ L := (h.p.k x hin).elim id (fun g => g.elim)
    obtain ⟨a, ha, hax⟩ := mem_lat.1 hxL
    obtain ⟨hu, hj, hp⟩ := h.dec ha hax hK (hd hxL)
    have hca : c0 = (a : Int) := by
      have := (h.p.p a ha (by omega)).2
      rw [hax, hat] at this
      unfold pv at this
      simpa using this
    have HU : Hid (UP K' (L.set a x) a) := hu
    have HJ : Hid (Inj (L.set a x)) := hj
    have HP : Hid (PL D (L.set a x) a (fun _ => False)) := hp
    have HA : Hid (a < L.length) := ha
    have HSS : Hid (L.set a x = L) := set_same ha hax
    have HHIN : Hid (has D (kv x) = true) := hin
    obtain ⟨g, hg⟩ : ∃ g, av = some ⟨g, 0, none⟩ := by
      have hi := h.h.i
      rw [hvs] at hi
      obtain ⟨g, e, _⟩ := hi.cell (i := a) (by rw [ints_len]; exact ha)
      exact ⟨g, e⟩
    have HVS : Hid (iv = .slice (some ⟨g, 0, none⟩) L.length cv) := by unfold Hid; rw [hvs, hg]
    rw [hin, hca] at hrun
    subst hg
    clear h hcm hK hd hs hu hj hp hax hxL hat hca hvs hin hC hx ha
    go_enter Try.func63, Try.ntmps63
    go_wp2_with fail
    refine (rise_any C q sb mb g cv pp rb nv K' L D (fun _ => False) a x _ (by rw [← HVS.out]; exact H.out.h) HCM.out (by have := HS.out; rw [HVS.out] at this; exact ⟨hbl_two this.1, hbl_two this.2.1, hbl_two this.2.2⟩) HA.out HU.out HJ.out HP.out (by rw [HSS.out]; exact H.out.v) hnv (by have := HLN.out; omega) (by have := HLN.out; have := HSZ.out; omega)).mono ?_
    rintro e w2 ⟨v, L', D', rfl, he⟩
    have HF : PT C w w2 q sb mb iv K' nv L x (.slice (some ⟨g, 0, none⟩) L'.length cv) L' D' := by
      refine ⟨he.hq (by rw [HSS.out]; exact H.out.v) (by rw [HSS.out, he.t HHIN.out]; exact HSZ.out), fun y => ?_, fun g' e => ?_, he.on.mono (fun b hb => ?_)⟩
      · rw [he.e, HSS.out]
        refine ⟨Or.inl, fun g => g.elim id (fun g => ?_)⟩
        rw [g]
        exact (H.out.p.k x HHIN.out).elim id (fun g => g.elim)
      · left; rw [HVS.out]; exact e
      · rw [HVS.out]
        simp [hbl, Value.ownBlock] at hb ⊢
        omega
    clear he
    go_wp2
    refine bodyPost_end (v := .tuple #[]) (by simp [results, Try.results63, go_sem]) rfl ⟨_, _, _, _, rfl, HF⟩
  · have hin' : has D (kv x) = false := by simpa using hin
    have hxL : x ∉ L := fun g => by
      obtain ⟨a, ha, hax⟩ := mem_lat.1 g
      have := (h.p.p a ha (by omega)).1
      rw [hax] at this
      exact hin this
    obtain ⟨hu, hj, hp⟩ := h.app hxL hK
    have HU : Hid (UP K' ((L ++ [x]).set L.length x) L.length) := hu
    have HJ : Hid (Inj ((L ++ [x]).set L.length x)) := hj
    have HP : Hid (PL D ((L ++ [x]).set L.length x) L.length (fun _ => False)) := hp
    have HSS : Hid ((L ++ [x]).set L.length x = L ++ [x]) := app_set L x
    have HI : Hid (OwnI C w (.slice av L.length cv) (ints L)) := by unfold Hid; rw [← hvs]; exact h.h.i
    have HVS : Hid (iv = .slice av L.length cv) := hvs
    rw [hin'] at hrun
    clear h hcm hK hd hs hu hj hp hat hvs hin hin' hC hx hxL
    generalize hn : L.length = n at *
    have HN : Hid (L.length = n) := hn
    have hnb : n ≤ 6000 := HLN.out
    clear hn
    go_enter Try.func63, Try.ntmps63
    go_wp2_with (at_builtin; refine wpList_append_own_at _ rfl _ _ 22 rfl C 2 ii (.int .i64 0) 1 8 Try.underlying22 hi hz0 hz1 hz2 rfl (by decide) _ _ _ rfl (World.ownsRow.alloc HI.out _) ⟨w.heap.size, 0, none⟩ 1 1 [.int .i64 (x : Int)] rfl rfl (fun j u hj => new_cells w _ _ _ rfl j u hj) ?c2 ?c3 ?c4 ?c5 ?_)
    case c2 => intro u hu; simp at hu; subst hu; rfl
    case c3 => rw [ints_len, HN.out]; unfold maxLen; omega
    case c4 => rw [ints_len, HN.out]; omega
    case c5 => rw [size_alloc']; have := HC.out; omega
    intro v7 w7 hown hgrow _ hat7
    have HI7 : Hid (OwnI C w7 v7 (ints (L ++ [x]))) := by unfold Hid; rw [← ints_app]; exact OwnI.snoc hown
    obtain ⟨g7, c7, hv7⟩ : ∃ g7 c7, v7 = .slice (some ⟨g7, 0, none⟩) (L ++ [x]).length c7 := by
      obtain ⟨a, c, e⟩ := HI7.out.slice
      have hi7 := HI7.out
      rw [e] at hi7
      obtain ⟨g, e2, _⟩ := hi7.cell (i := n) (by rw [ints_len, List.length_append, HN.out]; simp)
      exact ⟨g, c, by rw [e, e2, ints_len]⟩
    have HV7 : Hid (v7 = .slice (some ⟨g7, 0, none⟩) (L ++ [x]).length c7) := hv7
    have HQW : Hid (QB w q sb iv mb) := H.out.h.q
    have HNE : Hid (q ≠ mb ∧ ∀ g, iv.ownBlock = some g → g ≠ q ∧ g ≠ mb) := H.out.h.ne
    have hql : q < w.heap.size := (Array.getElem?_eq_some_iff.1 HQW.out).1
    have HQ7 : Hid (QB w7 q sb iv mb) := by
      have h1 : QB (w.alloc (.cells #[.int .i64 (x : Int)] 2)) q sb iv mb := (Below.heap_alloc w _ q hql).trans HQW.out
      exact (hgrow.block q (by rw [size_alloc']; omega) (fun e => (HNE.out.2 q (by rw [HVS.out]; exact e.symm)).1 rfl)).trans h1
    have HM7 : Hid (w7.ownsMap Try.prog 2 (plainElem Try.prog 3) mb (size D) D) := (H.out.h.m.alloc _).kept hgrow (fun e => (HNE.out.2 mb (by rw [HVS.out]; exact e.symm)).2 rfl)
    have HG7 : Hid (iv.ownBlock = some g7 ∨ g7 = w.heap.size + 1) := by
      unfold Hid
      rw [HV7.out] at hat7
      rcases hat7 with e | e
      · left; rw [HVS.out]; exact e.symm
      · right; exact Option.some.inj e
    have HG7q : Hid (g7 ≠ q) := by
      rcases HG7.out with e | e
      · exact (HNE.out.2 g7 e).1
      · intro e'; omega
    have HM8 : Hid (HM C (w7.setCell ⟨q, 1, none⟩ v7) q sb v7 mb (L ++ [x]) D) := by
      refine ⟨HQ7.out.set v7, HI7.out.kept (fun g e => ?_), HM7.out.setCell (fun e => HNE.out.1 e.symm) _⟩
      rw [HV7.out] at e
      have : g7 = g := Option.some.inj e
      subst this
      exact Below.heap_setCell _ _ _ _ HG7q.out
    have HO8 : Hid (OnS (hbl q mb iv) w (w7.setCell ⟨q, 1, none⟩ v7)) := ((OnS.nx (box1 w _)).tr (OnS.grown hgrow (fun g e => hbl_own (by rw [HVS.out]; exact e)))).tr (OnS.set _ _ (by simp [hbl]) _ _)
    have HCM8 : Hid (CM (w7.setCell ⟨q, 1, none⟩ v7) sb pp rb nv K') := HCM.out.on HO8.out HS.out.1 HS.out.2.1 HS.out.2.2
    have HS8 : Hid (sb ∉ [g7, mb] ∧ pp ∉ [g7, mb] ∧ rb ∉ [g7, mb]) := by
      obtain ⟨q1, ⟨c, q2⟩, q3⟩ := HCM.out
      have l1 := cell_lt q1
      have l2 := cell_lt q2
      have l3 := q3.lt
      have key : ∀ b, b ∉ hbl q mb iv → b < w.heap.size → b ∉ [g7, mb] := fun b hb hl hb' => by
        simp at hb'
        rcases hb' with e | e
        · rcases HG7.out with e' | e'
          · exact hb (e ▸ hbl_own e')
          · omega
        · exact hb (by rw [e]; simp [hbl])
      exact ⟨key _ HS.out.1 l1, key _ HS.out.2.1 l2, key _ HS.out.2.2 l3⟩
    have k7 : w7.cell? ⟨q, 1, none⟩ = some iv := HQ7.out.blk.cell (i := 1) rfl
    have z7 := HQ7.out.blk.frozen 1
    have HVV : Hid (∀ y ∈ (L ++ [x]).set n x, y < nv) := by
      unfold Hid
      rw [HSS.out]
      intro y hy
      rcases List.mem_append.1 hy with g | g
      · exact H.out.v y g
      · have : y = x := by simpa using g
        subst this
        exact HXV.out
    have HLA : Hid ((L ++ [x]).length = n + 1) := by unfold Hid; rw [List.length_append, HN.out]; rfl
    generalize hll : (L ++ [x]).length = l7 at hv7
    have HLL : Hid ((L ++ [x]).length = l7) := hll
    subst hv7
    clear hown hgrow hat7 hll k1 k2 hrun
    rw [HVS.out] at k7
    go_wp2_with fail
    refine (rise_any C q sb mb g7 c7 pp rb nv K' (L ++ [x]) D (fun _ => False) n x _ (by rw [HLL.out]; exact HM8.out) HCM8.out HS8.out (by have := HLA.out; omega) HU.out HJ.out HP.out HVV.out hnv (by have := HLA.out; omega) (by have := HSZ.out; omega)).mono ?_
    rintro e w2 ⟨v, L', D', rfl, he⟩
    have HF : PT C w w2 q sb mb iv K' nv L x (.slice (some ⟨g7, 0, none⟩) L'.length c7) L' D' := by
      refine ⟨he.hq HVV.out (by rw [HSS.out]; have h1 := he.s; have h2 := HSZ.out; have h3 := HLA.out; omega), fun y => ?_, fun g' e => ?_, HO8.out.trans he.on (fun b hb => ?_)⟩
      · rw [he.e, HSS.out]
        simp
      · have : g7 = g' := Option.some.inj e
        subst this
        rcases HG7.out with e' | e'
        · exact Or.inl e'
        · exact Or.inr (by omega)
      · simp at hb
        rcases hb with e' | e'
        · rcases HG7.out with e'' | e''
          · exact Or.inl (e' ▸ hbl_own e'')
          · exact Or.inr (by omega)
        · exact Or.inl (by rw [e']; simp [hbl])
    clear he
    go_wp2
    refine bodyPost_end (v := .tuple #[]) (by simp [results, Try.results63, go_sem]) rfl ⟨_, _, _, _, rfl, HF⟩
end Go.Proofs.Yticooljejlkbfaa
