import Derived.Test.YticooljejlkbfaaPJ
namespace Go.Proofs.Yticooljejlkbfaa
open Go.RowKit Go.Sort Go.Maps
set_option linter.unusedVariables false
set_option maxRecDepth 100000

theorem OnS.turned {w w' : World} {mb : Nat} (h : w.mapTurned w' mb) : OnS [mb] w w' := by
  obtain ⟨es, clock, es', clock', hb, rfl⟩ := h
  exact ⟨rfl, rfl, rfl, by simp [ChangeMaps.setBlock], fun b hb' hn => ChangeMaps.heap_setBlock_other hb _ (fun e => hn (by simp [e]))⟩
theorem OwnI.cap {C : Nat} {w : World} {a : Option Addr} {n c : Nat} {zs : List Int} (h : OwnI C w (.slice a n c) zs) : n ≤ c := by
  obtain ⟨h1, h2⟩ := h
  rcases h2 with ⟨h2, _⟩ | ⟨g', cap, cur, hv, hg, hh, hc, _⟩
  · simp at h2; omega
  · simp only [Value.slice.injEq] at hv
    omega
/-- behind a take -/
structure TK (C : Nat) (w w' : World) (q sb mb : Nat) (iv : Value) (K : Nat → Rk) (nv : Nat) (L : List Nat) (iv' : Value) (L' : List Nat) (D' : DM) : Prop where
  h : HQ C w' q sb iv' mb K nv L' D'
  e : ∀ y, y ∈ L' ↔ y ∈ L ∧ y ≠ lat L 0
  b : iv'.ownBlock = iv.ownBlock
  on : OnS (hbl q mb iv) w w'

theorem tk_end {C : Nat} {w w2 w3 : World} {q sb mb : Nat} {iv iv' : Value} {K : Nat → Rk} {nv n : Nat} {L L' : List Nat} {D' : DM} (hm : HM C w2 q sb iv' mb L' D') (ho : HeapOK K L') (hj : Inj L') (hp : PL D' L' L'.length (fun v => v = lat L 0)) (hh : has D' (kv (lat L 0)) = true) (hs : size D' ≤ L'.length + 1) (he : ∀ y, y ∈ L' ↔ y ∈ L ∧ y ≠ lat L 0) (hv : ∀ y ∈ L, y < nv) (hb : iv'.ownBlock = iv.ownBlock) (hon : OnS (hbl q mb iv) w w2)
    (h3 : w3.ownsMap Try.prog 2 (plainElem Try.prog 3) mb n (D'.del (kv (lat L 0)))) (ht : w2.mapTurned w3 mb) : TK C w w3 q sb mb iv K nv L iv' L' (D'.del (kv (lat L 0))) := by
  have hon3 := OnS.turned ht
  have hne := hm.ne
  have hx : lat L 0 ∉ L' := fun g => ((he _).1 g).2 rfl
  refine ⟨⟨⟨(hon3.block q (Array.getElem?_eq_some_iff.1 hm.q).1 (by simpa using hne.1)).trans hm.q, hm.i.kept (fun g e => hon3.block g (hm.i.blk e).2.1 (by simpa using (hne.2 g e).2)), own_exact h3⟩, ho, hj, (hp.drop hx).1, fun y hy => hv y ((he y).1 hy).1, ?_⟩, he, hb, hon.tr (hon3.mono (fun b hb => by simp at hb; rw [hb]; simp [hbl]))⟩
  have := hp.dropsz hh
  omega

set_option maxHeartbeats 8000000 in
theorem take_no (C q sb mb nv : Nat) (iv : Value) (K : Nat → Rk) (D : DM) (w : World) (h : HQ C w q sb iv mb K nv [] D) :
    Calls Try.prog 53 #[.pointer (some ⟨q, 0, none⟩)] w fun e w' => e = .returned (.tuple #[.int .i64 0, .bool false]) ∧ Nx w w' := by
  obtain ⟨av, cv, hvs⟩ := h.h.i.slice
  rw [ints_len] at hvs
  have k1 : w.cell? ⟨q, 1, none⟩ = some (.slice av 0 cv) := by rw [show (0 : Nat) = ([] : List Nat).length from rfl, ← hvs]; exact h.h.q.blk.cell (i := 1) rfl
  clear h hvs
  go_enter Try.func53, Try.ntmps53
  go_wp2
  refine bodyPost_ret (v := .tuple #[.int .i64 0, .bool false]) (by simp [results, Try.results53, go_sem]) rfl ⟨rfl, Nx.refl _⟩

set_option maxHeartbeats 8000000 in
theorem take_yes (C q sb mb pp rb nv : Nat) (iv : Value) (K : Nat → Rk) (L : List Nat) (D : DM) (k : Nat) (w : World) (h : HQ C w q sb iv mb K nv L D) (hk : L.length = k + 1) (hcm : CM w sb pp rb nv K) (hnv : nv ≤ 6000) (hs : sb ∉ hbl q mb iv ∧ pp ∉ hbl q mb iv ∧ rb ∉ hbl q mb iv) :
    Calls Try.prog 53 #[.pointer (some ⟨q, 0, none⟩)] w fun e w' => ∃ iv' L' D', e = .returned (.tuple #[.int .i64 (lat L 0 : Int), .bool true]) ∧ TK C w w' q sb mb iv K nv L iv' L' D' := by
  have H : Hid (HQ C w q sb iv mb K nv L D) := h
  have HCM : Hid (CM w sb pp rb nv K) := hcm
  have HS : Hid (sb ∉ hbl q mb iv ∧ pp ∉ hbl q mb iv ∧ rb ∉ hbl q mb iv) := hs
  have HKL : Hid (L.length = k + 1) := hk
  have hkb : k ≤ 6000 := by have := nodup_len nv L h.j.nodup h.v; omega
  have HSZ : Hid (size D ≤ L.length) := h.s
  obtain ⟨av, cv, hvs⟩ := h.h.i.slice
  rw [ints_len] at hvs
  have hi := h.h.i
  rw [hvs] at hi
  obtain ⟨g, hg, _hj⟩ := hi.cell (i := 0) (by rw [ints_len]; omega)
  clear _hj
  subst hg
  have hcap := hi.cap
  rw [hk] at hvs hcap
  have HVS : Hid (iv = .slice (some ⟨g, 0, none⟩) (k + 1) cv) := hvs
  have HI : Hid (OwnI C w (.slice (some ⟨g, 0, none⟩) (k + 1) cv) (ints L)) := by rw [hk] at hi; exact hi
  have k1 : w.cell? ⟨q, 1, none⟩ = some (.slice (some ⟨g, 0, none⟩) (k + 1) cv) := by rw [← hvs]; exact h.h.q.blk.cell (i := 1) rfl
  have c0 : w.cell? ⟨g, 0, none⟩ = some (.int .i64 (lat L 0 : Int)) := it_cell HI.out (by omega)
  have ck : w.cell? ⟨g, k, none⟩ = some (.int .i64 (lat L k : Int)) := it_cell HI.out (by omega)
  have z1 := h.h.q.blk.frozen 1
  have HNE : Hid (q ≠ mb ∧ ∀ g, iv.ownBlock = some g → g ≠ q ∧ g ≠ mb) := h.h.ne
  have hgq : g ≠ q := (HNE.out.2 g (by rw [hvs]; rfl)).1
  have HM1 : Hid (HM C (w.setCell ⟨q, 1, none⟩ (.slice (some ⟨g, 0, none⟩) k cv)) q sb (.slice (some ⟨g, 0, none⟩) k cv) mb (L.take k) D) := by
    refine ⟨h.h.q.set _, ?_, h.h.m.setCell (fun e => HNE.out.1 e.symm) _⟩
    rw [← ints_take]
    refine (HI.out.cut (k := k) (by rw [ints_len]; omega)).kept (fun g' e => ?_)
    have : g = g' := Option.some.inj e
    subst this
    exact Below.heap_setCell _ _ _ _ hgq
  have HO1 : Hid (OnS (hbl q mb iv) w (w.setCell ⟨q, 1, none⟩ (.slice (some ⟨g, 0, none⟩) k cv))) := OnS.set _ _ (by simp [hbl]) _ _
  have HCM1 : Hid (CM (w.setCell ⟨q, 1, none⟩ (.slice (some ⟨g, 0, none⟩) k cv)) sb pp rb nv K) := HCM.out.on HO1.out HS.out.1 HS.out.2.1 HS.out.2.2
  have HTL : Hid ((L.take k).length = k) := by unfold Hid; rw [List.length_take]; omega
  have HLV : Hid (lat L 0 < nv ∧ lat L k < nv) := ⟨h.v _ (lat_mem (by omega)), h.v _ (lat_mem (by omega))⟩
  have hl0 : lat L 0 ≤ 6000 := by have := HLV.out; omega
  have hlk : lat L k ≤ 6000 := by have := HLV.out; omega
  have hkc : (k : Int) ≤ cv := by omega
  have hkk : (k : Int) < (k : Int) + 1 := by omega
  have HH0 : Hid (has D (kv (lat L 0)) = true) := (h.p.p 0 (by omega) (by omega)).1
  have HHk : Hid (has D (kv (lat L k)) = true) := (h.p.p k (by omega) (by omega)).1
  by_cases hk0 : k = 0
  · subst hk0
    have HM2 : Hid (HM C (w.setCell ⟨q, 1, none⟩ (.slice (some ⟨g, 0, none⟩) 0 cv)) q sb (.slice (some ⟨g, 0, none⟩) 0 cv) mb [] D) := HM1.out
    have HP : Hid (PL D [] ([] : List Nat).length (fun v => v = lat L 0)) := ⟨h.p.m, h.p.t, fun i hi => by simp at hi, fun v hv => by
      rcases h.p.k v hv with g | g
      · right
        obtain ⟨i, hi, e⟩ := mem_lat.1 g
        have : i = 0 := by omega
        subst this
        exact e.symm
      · exact g.elim⟩
    have HE0 : Hid (∀ y, y ∈ ([] : List Nat) ↔ y ∈ L ∧ y ≠ lat L 0) := fun y => ⟨fun g => by simp at g, fun ⟨g1, g2⟩ => by
      obtain ⟨i, hi, e⟩ := mem_lat.1 g1
      have : i = 0 := by omega
      subst this
      exact absurd e.symm g2⟩
    have y1 : (w.setCell ⟨q, 1, none⟩ (.slice (some ⟨g, 0, none⟩) 0 cv)).cell? ⟨q, 2, none⟩ = some (.map (some mb)) := HM2.out.q.blk.cell (i := 2) rfl
    have y0 : (w.setCell ⟨q, 1, none⟩ (.slice (some ⟨g, 0, none⟩) 0 cv)).cell? ⟨q, 1, none⟩ = some (.slice (some ⟨g, 0, none⟩) 0 cv) := HM2.out.q.blk.cell (i := 1) rfl
    clear h hcm hs hk hvs hi hgq
    go_enter Try.func53, Try.ntmps53
    go_upto_region 8 with fail
    clear c0 ck k1 z1 y0
    generalize w.setCell ⟨q, 1, none⟩ (.slice (some ⟨g, 0, none⟩) 0 cv) = w2 at *
    go_wp2_with (at_delete; refine wpList_delete_own _ rfl _ _ 82 2 rfl 3 keyI Try.underlying82 (plainElem Try.prog 3) mb (size D) D rfl HM2.out.m (.int .i64 (lat L 0 : Int)) (kv (lat L 0)) rfl (kv_ok _ (by omega)) ?_)
    intro w3 hown3 hturn3
    have HF := tk_end (K := K) (nv := nv) HM2.out (fun i h1 h2 => absurd h2 (by simp)) (fun i j h1 => absurd h1 (by simp)) HP.out HH0.out (by have := HSZ.out; have := HKL.out; simp; omega) HE0.out H.out.v (by rw [HVS.out]; rfl) HO1.out hown3 hturn3
    clear hown3 hturn3
    go_wp2
    refine bodyPost_ret (v := .tuple #[.int .i64 (lat L 0 : Int), .bool true]) (by simp [results, Try.results53, go_sem]) rfl ⟨_, _, _, rfl, HF⟩
  · have d1 : decide ((0 : Int) < (k : Int)) = true := decide_eq_true (by omega)
    have d1' : decide (0 < k) = true := decide_eq_true (by omega)
    obtain ⟨hd, hj, hp, hm⟩ := h.pop hk (by omega)
    have HD : Hid (DN K ((L.take k).set 0 (lat L k)) 0) := hd
    have HJ : Hid (Inj ((L.take k).set 0 (lat L k))) := hj
    have HP : Hid (PL D ((L.take k).set 0 (lat L k)) 0 (fun v => v = lat L 0)) := hp
    have HMM : Hid (∀ y, y ∈ (L.take k).set 0 (lat L k) ↔ y ∈ L ∧ y ≠ lat L 0) := hm
    have y0 : (w.setCell ⟨q, 1, none⟩ (.slice (some ⟨g, 0, none⟩) k cv)).cell? ⟨q, 1, none⟩ = some (.slice (some ⟨g, 0, none⟩) k cv) := HM1.out.q.blk.cell (i := 1) rfl
    have hk1 : 1 ≤ k := by omega
    clear h hcm hs hk hvs hi hgq hd hj hp hm hk0
    go_enter Try.func53, Try.ntmps53
    go_upto_region 8 with fail
    clear c0 ck k1 z1 y0
    generalize w.setCell ⟨q, 1, none⟩ (.slice (some ⟨g, 0, none⟩) k cv) = w1 at *
    go_wp2_with fail
    refine (sink_any C q sb mb g cv pp rb nv K (L.take k) D (fun v => v = lat L 0) 0 (lat L k) _ (by rw [HTL.out]; exact HM1.out) HCM1.out (by have := HS.out; rw [HVS.out] at this; exact ⟨hbl_two this.1, hbl_two this.2.1, hbl_two this.2.2⟩) (by rw [HTL.out]; omega) HD.out HJ.out HP.out (fun y hy => H.out.v y ((HMM.out y).1 hy).1) hnv (by rw [HTL.out]; omega) (by have := HSZ.out; have := HKL.out; omega)).mono ?_
    rintro e w2 ⟨v, L', D', rfl, he⟩
    have HE2 : Hid (HE C w1 w2 q sb g cv mb K ((L.take k).set 0 (lat L k)) (lat L k) D (fun v => v = lat L 0) L' D') := he
    have HM2 : Hid (HM C w2 q sb (.slice (some ⟨g, 0, none⟩) L'.length cv) mb L' D') := he.h
    have HLK : Hid (L'.length = k) := by unfold Hid; rw [he.l, List.length_set, HTL.out]
    have y1 : w2.cell? ⟨q, 2, none⟩ = some (.map (some mb)) := HM2.out.q.blk.cell (i := 2) rfl
    clear he d1 d1'
    go_wp2_with (at_delete; refine wpList_delete_own _ rfl _ _ 82 2 rfl 3 keyI Try.underlying82 (plainElem Try.prog 3) mb (size D') D' rfl HM2.out.m (.int .i64 (lat L 0 : Int)) (kv (lat L 0)) rfl (kv_ok _ (by omega)) ?_)
    intro w3 hown3 hturn3
    have HF := tk_end (K := K) (nv := nv) HM2.out HE2.out.o HE2.out.j HE2.out.p (HE2.out.k _ HH0.out) (by rw [HE2.out.t HHk.out, HLK.out]; have := HSZ.out; have := HKL.out; omega) (fun y => (HE2.out.e y).trans (HMM.out y)) H.out.v (by rw [HVS.out]; rfl) (HO1.out.tr (HE2.out.on.mono (fun b hb => by rw [HVS.out]; simp [hbl, Value.ownBlock] at hb ⊢; omega))) hown3 hturn3
    clear hown3 hturn3
    go_wp2
    refine bodyPost_ret (v := .tuple #[.int .i64 (lat L 0 : Int), .bool true]) (by simp [results, Try.results53, go_sem]) rfl ⟨_, _, _, rfl, HF⟩
end Go.Proofs.Yticooljejlkbfaa
