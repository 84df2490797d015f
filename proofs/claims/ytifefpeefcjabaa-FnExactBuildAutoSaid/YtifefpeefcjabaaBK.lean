import Derived.Test.YtifefpeefcjabaaBJ
namespace Go.Proofs.Ytifefpeefcjabaa
open Go.RowKit Go.Maps
set_option linter.unusedVariables false
set_option maxRecDepth 100000

theorem ownP_one (B : Nat) (w : World) (b : Nat) (h : B ≤ w.heap.size) : OwnP B (w.alloc (.cells #[ptr b] 78)) (.slice (some ⟨w.heap.size, 0, none⟩) 1 1) [b] :=
  ⟨rfl, Or.inr ⟨w.heap.size, 1, #[ptr b], rfl, h, by show (w.heap.push _)[w.heap.size]? = _; simp, Nat.le_refl _, by simp [maxLen], by simp, by simp [pcells]⟩⟩
theorem map_upd (bl : Nat → Nat) (s x : Nat) : (List.range s).map (upd bl s x) = (List.range s).map bl := by
  refine List.map_congr_left fun t ht => ?_
  rw [List.mem_range] at ht
  exact upd_ne _ _ (by omega)
theorem vl_parts {A : Au} (h : vlI A = true) : lensOk A = true ∧ (iat A.pa 0 = -1 ∧ iat A.la 0 = -1 ∧ iat A.mu 0 = -1 ∧ bat A.bd 0 = false) ∧ (∀ t, 1 ≤ t → t < A.pa.length → okR A t = true ∧ muB (iat A.mu t) = true ∧ pairAsc A t = true) := by
  unfold vlI at h
  rw [Bool.and_eq_true] at h
  obtain ⟨h1, h2⟩ := h
  have hl := h1
  unfold lensOk at hl
  simp only [Bool.and_eq_true, decide_eq_true_eq] at hl
  have ha : ∀ t, t < A.pa.length → vlAt A t = true := fun t ht => by
    unfold allN at h2
    exact List.all_eq_true.1 h2 t (List.mem_range.2 ht)
  refine ⟨h1, ?_, fun t ht1 ht => ?_⟩
  · have := ha 0 (by omega)
    simp [vlAt] at this
    exact this
  · have := ha t ht
    unfold vlAt at this
    rw [if_neg (by omega)] at this
    simpa only [Bool.and_eq_true] using this
/-- readAuto's first loop: s states are grown -/
structure RG (A : Au) (s : Nat) (w0 w : World) (gv : Value) (bl : Nat → Nat) (mv : Nat → Value) : Prop where
  gt : GT A s (w0.heap.size + 1) w bl mv
  ow : OwnP (w0.heap.size + 1) w gv ((List.range s).map bl)
  ap : ∀ t, t < s → some (bl t) ≠ gv.ownBlock
  ln : ∀ t, t < s → (Wd A t).length ≤ 402

theorem RG.next {A : Au} {s : Nat} {w0 w w' : World} {gv : Value} {bl : Nat → Nat} {mv : Nat → Value} (h : RG A s w0 w gv bl mv) (k : Nx w w') : RG A s w0 w' gv bl mv :=
  ⟨h.gt.keep (o := none) (But.of_nx k) (by simp) (by simp), h.ow.next k, h.ap, h.ln⟩
theorem But.cell {o o' : Option Nat} {w w' : World} (k : But o o' w w') {b i : Nat} {v : Value} (h : w.cell? ⟨b, i, none⟩ = some v) (h1 : some b ≠ o) (h2 : some b ≠ o') : w'.cell? ⟨b, i, none⟩ = some v :=
  (World.cell?_of_block (w := w) (k.block b (cell_lt h) h1 h2)).trans h
theorem cell_set {w : World} {b i g j : Nat} {v : Value} (h : w.cell? ⟨b, i, none⟩ = some v) (hn : b ≠ g) (u : Value) : (w.setCell ⟨g, j, none⟩ u).cell? ⟨b, i, none⟩ = some v :=
  (World.cell?_of_block (w := w) (Below.heap_setCell _ _ _ _ hn)).trans h
theorem OwnP.blk {C : Nat} {w : World} {v : Value} {bs : List Nat} (h : OwnP C w v bs) {g : Nat} (e : v.ownBlock = some g) : ∃ cs, Blk w g cs := by
  obtain ⟨h1, h2⟩ := h
  rcases h2 with ⟨rfl, _⟩ | ⟨g', cap, cur, rfl, hg, hh, r⟩
  · simp [Value.ownBlock] at e
  · simp [Value.ownBlock] at e
    subst e
    exact ⟨cur, _, hh⟩

theorem But.setNew {o o' : Option Nat} {w w' : World} (h : But o o' w w') {g : Nat} (hg : w.heap.size ≤ g) (i : Nat) (u : Value) : But o o' w (w'.setCell ⟨g, i, none⟩ u) :=
  ⟨h.os, h.tape, h.output, by rw [size_set']; exact h.size, fun b hb hn hn' => (Below.heap_setCell _ _ _ _ (show b ≠ g by omega)).trans (h.block b hb hn hn')⟩
theorem But.below {o o' : Option Nat} {C : Nat} {w0 w w' : World} (h : Below C w0 w) (k : But o o' w w') (hC : C ≤ w.heap.size) (ho : ∀ g, o = some g → C ≤ g) (ho' : ∀ g, o' = some g → C ≤ g) : Below C w0 w' :=
  ⟨k.os.trans h.os, k.tape.trans h.tape, k.output.trans h.output, Nat.le_trans h.size k.size, fun b hb => (k.block b (by omega) (fun e => by have := ho b e.symm; omega) (fun e => by have := ho' b e.symm; omega)).trans (h.block b hb)⟩
theorem RG.step {A : Au} {s p : Nat} {w0 w wb w' : World} {gv v' m' : Value} {bl : Nat → Nat} {mv : Nat → Value} (h : RG A s w0 w gv bl mv) (h1 : 1 ≤ s) (hz : w0.heap.size + 1 ≤ w.heap.size) (hk : ∀ t, 1 ≤ t → t < s + 1 → okR A t = true) (hp : iat A.pa s = p) (hps : p < s) (hln : (Wd A p).length + 1 ≤ 402)
    (b1 : Blk wb w.heap.size (node 0 ((Wd A p).length + 1) (iat A.la s) (iat A.mu s) (bat A.bd s) (ptr (bl p)) (.pointer none) (.map none)))
    (b2 : Blk wb (bl p) (node 0 (Wd A p).length (iat A.la p) (if p = 0 then -1 else iat A.mu p) (if p = 0 then false else bat A.bd p) (if p = 0 then .pointer none else ptr (bl (iat A.pa p).toNat)) (.pointer none) m'))
    (b3 : MK wb m' (kidsL A s bl p ++ [(iat A.la s, w.heap.size)])) (b4 : mapBlk m' = mapBlk (mv p) ∨ mapBlk m' = some (w.heap.size + 1)) (b5 : But (some (bl p)) (mapBlk (mv p)) w wb)
    (hown : OwnP (w0.heap.size + 1) wb gv ((List.range s).map bl)) (ho : OwnP (w0.heap.size + 1) w' v' ((List.range s).map bl ++ [w.heap.size])) (hat : v'.ownBlock = gv.ownBlock ∨ v'.ownBlock = some (wb.heap.size + 1)) (hb : But none gv.ownBlock wb w') :
    RG A (s + 1) w0 w' v' (upd bl s w.heap.size) (upd (upd mv p m') s (.map none)) := by
  have hlt : ∀ t, t < s → bl t < w.heap.size := fun t ht => (h.gt.tr.nd t ht).lt
  have hzb : w.heap.size < wb.heap.size := b1.lt
  have g1 := h.gt.grow h1 hz hk hp hps b1 b2 b3 b4 b5
  have hne : ∀ t, t < s + 1 → some (upd bl s w.heap.size t) ≠ gv.ownBlock := by
    intro t ht e
    by_cases ets : t = s
    · subst ets
      rw [upd_at] at e
      have := (own_lt h.ow _ e.symm).2
      omega
    · rw [upd_ne _ _ ets] at e
      exact h.ap t (by omega) e
  refine ⟨g1.keep hb hne (fun t mb ht e e' => ?_), ?_, fun t ht e => ?_, fun t ht => ?_⟩
  · obtain ⟨cs, hcs⟩ := hown.blk e'.symm
    exact (g1.tr.kd t ht).ne e hcs rfl
  · rw [← range_snoc, map_upd, upd_at]
    exact ho
  · rcases hat with hat | hat
    · exact hne t ht (by rw [← hat]; exact e)
    · rw [hat] at e
      have := Option.some.inj e
      have := (g1.tr.nd t ht).lt
      omega
  · by_cases ets : t = s
    · subst ets
      rw [Wd_step (hk t h1 (by omega)) h1, hp, Int.toNat_natCast, List.length_append]
      exact hln
    · exact h.ln t (by omega)

set_option maxHeartbeats 8000000 in
theorem readAuto_any (B : Nat) (v0 v1 v2 v3 v4 : Value) (A : Au) (w : World) (h0 : HA B w v0 v1 v2 v3 v4 A) :
    Calls Try.prog 45 #[.agg #[v0, v1, v2, v3, v4]] w fun r w' => ∃ v, r = .returned v ∧ Nx w w' ∧ ((validI A = false ∧ v = .slice none 0 0) ∨ (validI A = true ∧ ∃ bl fl mv, OwnP w.heap.size w' v ((List.range A.pa.length).map bl) ∧ TR A A.pa.length A.pa.length w' bl fl mv (numTo A.pa.length))) := by
  obtain ⟨ii, hi, hz0, hz1, hz2⟩ := info_parts infoPtr
  have HH : Hid (HA B w v0 v1 v2 v3 v4 A) := h0
  obtain ⟨⟨a0, c0, rfl, hn0, hk0⟩, ⟨a1, c1, rfl, hn1, hk1⟩, ⟨a2, c2, rfl, hn2, hk2⟩, ⟨a3, c3, rfl, hn3, hk3⟩, ⟨a4, c4, rfl, hn4, hk4⟩⟩ := h0
  unfold maxLen at hn0 hn1 hn2 hn3 hn4
  have BA := Blk.new w #[.slice a0 A.pa.length c0, .slice a1 A.la.length c1, .slice a2 A.fa.length c2, .slice a3 A.mu.length c3, .slice a4 A.bd.length c4] 27 _ rfl
  have HBA : Hid (Blk (w.alloc (.cells #[.slice a0 A.pa.length c0, .slice a1 A.la.length c1, .slice a2 A.fa.length c2, .slice a3 A.mu.length c3, .slice a4 A.bd.length c4] 27)) w.heap.size #[.slice a0 A.pa.length c0, .slice a1 A.la.length c1, .slice a2 A.fa.length c2, .slice a3 A.mu.length c3, .slice a4 A.bd.length c4]) := BA
  have k0 := BA.cell (i := 0) rfl
  have k1 := BA.cell (i := 1) rfl
  have k2 := BA.cell (i := 2) rfl
  have k3 := BA.cell (i := 3) rfl
  have k4 := BA.cell (i := 4) rfl
  have HX0 : Hid (Nx w (w.alloc (.cells #[.slice a0 A.pa.length c0, .slice a1 A.la.length c1, .slice a2 A.fa.length c2, .slice a3 A.mu.length c3, .slice a4 A.bd.length c4] 27))) := box1 _ _
  clear BA
  go_enter Try.func45, Try.ntmps45
  go_wp2_with fail
  refine (validLists_any B _ _ _ _ _ A _ (by exact HH.out.next HX0.out)).mono ?_
  rintro e w2 ⟨rfl, hx⟩
  have HB2 : Hid (Blk w2 w.heap.size #[.slice a0 A.pa.length c0, .slice a1 A.la.length c1, .slice a2 A.fa.length c2, .slice a3 A.mu.length c3, .slice a4 A.bd.length c4]) := HBA.out.next hx
  have HX2 : Hid (Nx w w2) := HX0.out.trans hx
  clear hx HBA HX0 k0 k1 k2 k3 k4
  cases hv : vlI A
  case false =>
    have HF : Hid (validI A = false) := by unfold Hid; rw [vl_valid, hv]; rfl
    go_wp2
    go_ret
    exact ⟨_, rfl, HX2.out, Or.inl ⟨HF.out, rfl⟩⟩
  have HV : Hid (vlI A = true) := hv
  obtain ⟨hlo, ⟨hr0, hr1, hr2, hr3⟩, hok⟩ := vl_parts hv
  have HOK : Hid (∀ t, 1 ≤ t → t < A.pa.length → okR A t = true ∧ muB (iat A.mu t) = true ∧ pairAsc A t = true) := hok
  have HL0 : Hid (iat A.la 0 = -1) := hr1
  unfold lensOk at hlo
  simp only [Bool.and_eq_true, decide_eq_true_eq, beq_iff_eq] at hlo
  obtain ⟨l1, l2, l3, l4, l5, l6⟩ := hlo
  rw [l3] at hk1 HB2
  rw [l4] at hk2 HB2
  rw [l5] at hk3 HB2
  rw [l6] at hk4 HB2
  clear hn0 hn1 hn2 hn3 hn4
  generalize hnn : A.pa.length = n at *
  have HN : Hid (A.pa.length = n) := hnn
  clear hnn hv l3 l4 l5 l6 hok hr0 hr1 hr2 hr3
  go_wp2_with fail
  refine (newRoot_any w2).mono ?_
  rintro r w3 ⟨rfl, hb3, hx3⟩
  have HB3 : Hid (Blk w3 w.heap.size #[.slice a0 n c0, .slice a1 n c1, .slice a2 n c2, .slice a3 n c3, .slice a4 n c4]) := HB2.out.next hx3
  have HX3 : Hid (Nx w w3) := HX2.out.trans hx3
  have hz2' : w.heap.size < w2.heap.size := HB2.out.lt
  have hz3 : w2.heap.size < w3.heap.size := hb3.lt
  have HB4 : Hid (Blk (w3.alloc (.cells #[ptr w2.heap.size] 78)) w.heap.size #[.slice a0 n c0, .slice a1 n c1, .slice a2 n c2, .slice a3 n c3, .slice a4 n c4]) := HB3.out.alloc _
  have HX4 : Hid (Nx w (w3.alloc (.cells #[ptr w2.heap.size] 78))) := HX3.out.trans (box1 w3 _)
  have HR4 : Hid (RG A 1 w (w3.alloc (.cells #[ptr w2.heap.size] 78)) (.slice (some ⟨w3.heap.size, 0, none⟩) 1 1) (fun _ => w2.heap.size) (fun _ => .map none)) := by
    refine ⟨GT.root (hb3.alloc _) HL0.out (by omega) _ rfl, ownP_one _ _ _ (by omega), fun t ht e => ?_, fun t ht => ?_⟩
    · have e' : w2.heap.size = w3.heap.size := Option.some.inj e
      omega
    · obtain rfl : t = 0 := by omega
      rw [Wd_zero]; simp
  clear hb3 hx3 HB2 HX2 HB3 HX3
  unfold ptr at HB4 HX4 HR4 ⊢
  go_wp2
  generalize hw4 : w3.alloc (.cells #[.pointer (some ⟨w2.heap.size, 0, none⟩)] 78) = w4 at *
  have HW4 : Hid (w.heap.size + 1 ≤ w4.heap.size) := by
    have := size_alloc' w3 (.cells #[.pointer (some ⟨w2.heap.size, 0, none⟩)] 78)
    rw [hw4] at this
    unfold Hid
    omega
  clear hw4
  go_loopw [3, 4, 5] (fun gv i st wr => ∃ s : Nat, 1 ≤ s ∧ s ≤ n ∧ i = .int .i64 s ∧ Hid (∃ bl mv, RG A s w wr gv bl mv) ∧ Hid (Below (w.heap.size + 1) w4 wr)) (fun _ i _ _ => n - (intOf i).toNat)
  case atStart => exact ⟨1, Nat.le_refl _, l1, rfl, ⟨_, _, HR4.out⟩, Below.refl _ _⟩
  clear HR4
  obtain ⟨s, hs1, hsn, rfl, HRG, HBW⟩ := hrel
  have BW := HB4.out.below HBW.out (Nat.lt_succ_self _)
  have HBK : Hid (Blk wr w.heap.size #[.slice a0 n c0, .slice a1 n c1, .slice a2 n c2, .slice a3 n c3, .slice a4 n c4]) := BW
  have HXW : Hid (Nx w wr) := Below.trans HX4.out (Below.mono HBW.out (Nat.le_succ _))
  have k0 : wr.cell? ⟨w.heap.size, 0, none⟩ = some (.slice a0 n c0) := BW.cell (i := 0) rfl
  have k1 : wr.cell? ⟨w.heap.size, 1, none⟩ = some (.slice a1 n c1) := BW.cell (i := 1) rfl
  have k2 : wr.cell? ⟨w.heap.size, 2, none⟩ = some (.slice a2 n c2) := BW.cell (i := 2) rfl
  have k3 : wr.cell? ⟨w.heap.size, 3, none⟩ = some (.slice a3 n c3) := BW.cell (i := 3) rfl
  have k4 : wr.cell? ⟨w.heap.size, 4, none⟩ = some (.slice a4 n c4) := BW.cell (i := 4) rfl
  clear BW
  by_cases hlt : s < n
  · have hlt' : (s : Int) < n := by omega
    obtain ⟨bl, mv, hrg⟩ := HRG.out
    have hoks := HOK.out s hs1 hlt
    have hoka := okR_at hoks.1
    obtain ⟨p, hp⟩ : ∃ p : Nat, iat A.pa s = p := ⟨(iat A.pa s).toNat, by omega⟩
    have hps : p < s := by omega
    have hps' : (p : Int) < s := by omega
    have HP : Hid (iat A.pa s = p) := hp
    have HWF : Hid ((Lit.int .i64 (iat A.la s)).wf = true) := wf_small hoka.2.2.1 hoka.2.2.2
    obtain ⟨b0, o0, e0, _, hb0, hc0⟩ := hk0 (by omega)
    obtain ⟨b1, o1, e1, _, hb1, hc1⟩ := hk1 (by omega)
    obtain ⟨b3, o3, e3, _, hb3, hc3⟩ := hk3 (by omega)
    obtain ⟨b4, o4, e4, _, hb4, hc4⟩ := hk4 (by omega)
    subst e0 e1 e3 e4
    have x0 := cell_next HXW.out hb0 (hc0 s hlt)
    rw [hp] at x0
    have x1 := cell_next HXW.out hb1 (hc1 s hlt)
    have x3 := cell_next HXW.out hb3 (hc3 s hlt)
    have x4 := cell_next HXW.out hb4 (hc4 s hlt)
    obtain ⟨ag, cg, hgs⟩ := hrg.ow.slice
    rw [List.length_map, List.length_range] at hgs
    subst hgs
    obtain ⟨g, hag, hcg⟩ := hrg.ow.cell (i := p) (by simpa using hps)
    subst hag
    rw [nat_range bl hps] at hcg
    unfold ptr at hcg
    have HRD : Hid (RG A s w wr.drew (.slice (some ⟨g, 0, none⟩) s cg) bl mv) := hrg.next ((Nx.refl wr).drew)
    have HLP : Hid ((Wd A p).length ≤ 402) := hrg.ln p hps
    have HPA : Hid (∀ t, 1 ≤ t → t < s + 1 → pairAsc A t = true) := fun t h1 h2 => (HOK.out t h1 (by omega)).2.2
    clear hk0 hk1 hk2 hk3 hk4 hc0 hc1 hc3 hc4 hp hoks hoka hrg
    generalize hla : iat A.la s = e at *
    have HLA : Hid (iat A.la s = e) := hla
    clear hla
    go_wp2
    have HCW : Hid ((wr.cell? ⟨w.heap.size, 0, none⟩ = some (.slice (some ⟨b0, o0, none⟩) n c0) ∧ wr.cell? ⟨w.heap.size, 1, none⟩ = some (.slice (some ⟨b1, o1, none⟩) n c1)) ∧ (wr.cell? ⟨w.heap.size, 3, none⟩ = some (.slice (some ⟨b3, o3, none⟩) n c3) ∧ wr.cell? ⟨w.heap.size, 4, none⟩ = some (.slice (some ⟨b4, o4, none⟩) n c4)) ∧ wr.cell? ⟨b0, o0 + s, none⟩ = some (.int .i64 (p : Int)) ∧ wr.cell? ⟨b1, o1 + s, none⟩ = some (.int .i64 e) ∧ wr.cell? ⟨g, p, none⟩ = some (.pointer (some ⟨bl p, 0, none⟩)) ∧ wr.cell? ⟨b3, o3 + s, none⟩ = some (.int .i64 (iat A.mu s)) ∧ wr.cell? ⟨b4, o4 + s, none⟩ = some (.bool (bat A.bd s))) := ⟨⟨k0, k1⟩, ⟨k3, k4⟩, x0, x1, hcg, x3, x4⟩
    have HNB : Hid (∀ b, b ≤ w.heap.size ∨ b = g → some b ≠ some (bl p) ∧ some b ≠ mapBlk (mv p)) := by
      intro b hb
      have hg1 := HRD.out.gt.ge p hps
      refine ⟨fun e => ?_, fun e => ?_⟩
      · have e' := Option.some.inj e
        rcases hb with hb | hb
        · omega
        · exact HRD.out.ap p hps (by rw [← e', hb]; rfl)
      · have hm := HRD.out.gt.mge p b hps e.symm
        rcases hb with hb | hb
        · omega
        · obtain ⟨cs, hcs⟩ := HRD.out.ow.blk (g := g) rfl
          exact (HRD.out.gt.tr.kd p hps).ne e.symm hcs hb
    go_region_held3 (fun w' => w'.cell? ⟨w.heap.size, 0, none⟩ = some (.slice (some ⟨b0, o0, none⟩) n c0) ∧ w'.cell? ⟨w.heap.size, 1, none⟩ = some (.slice (some ⟨b1, o1, none⟩) n c1) ∧ w'.cell? ⟨b0, o0 + s, none⟩ = some (.int .i64 (p : Int)) ∧ w'.cell? ⟨b1, o1 + s, none⟩ = some (.int .i64 e) ∧ w'.cell? ⟨g, p, none⟩ = some (.pointer (some ⟨bl p, 0, none⟩))) (go_keep) (first
      | (go_at_call 65; refine (grow_any (bl p) 0 (Wd A p).length _ _ _ _ _ _ (kidsL A s bl p) e wr.drew (HRD.out.gt.tr.nd p hps) (HRD.out.gt.tr.kd p hps) (by rw [← HLA.out]; exact kids_lt HPA.out HP.out) (Nat.le_trans (kids_len A s p bl) (by omega)) (by omega) (by have := HLP.out; omega) HWF.out).mono ?_; rintro r wa ⟨m', rfl, hg1, hg2, hmk, hmb, hbut⟩; have s0 := hbut.cell HCW.out.1.1 (HNB.out _ (Or.inl (Nat.le_refl _))).1 (HNB.out _ (Or.inl (Nat.le_refl _))).2; have s1 := hbut.cell HCW.out.1.2 (HNB.out _ (Or.inl (Nat.le_refl _))).1 (HNB.out _ (Or.inl (Nat.le_refl _))).2; have s2 := hbut.cell HCW.out.2.2.1 (HNB.out _ (Or.inl (Nat.le_of_lt hb0))).1 (HNB.out _ (Or.inl (Nat.le_of_lt hb0))).2; have s3 := hbut.cell HCW.out.2.2.2.1 (HNB.out _ (Or.inl (Nat.le_of_lt hb1))).1 (HNB.out _ (Or.inl (Nat.le_of_lt hb1))).2; have s4 := hbut.cell HCW.out.2.2.2.2.1 (HNB.out _ (Or.inr rfl)).1 (HNB.out _ (Or.inr rfl)).2; unfold ptr))
    have HG1 : Hid (Blk wa wr.heap.size (node 0 ((Wd A p).length + 1) e (-1) false (ptr (bl p)) (.pointer none) (.map none))) := hg1
    have HG2 : Hid (Blk wa (bl p) (node 0 (Wd A p).length (iat A.la p) (if p = 0 then -1 else iat A.mu p) (if p = 0 then false else bat A.bd p) (if p = 0 then .pointer none else ptr (bl (iat A.pa p).toNat)) (.pointer none) m')) := hg2
    have HMK : Hid (MK wa m' (kidsL A s bl p ++ [(e, wr.heap.size)])) := hmk
    have HMB : Hid (mapBlk m' = mapBlk (mv p) ∨ mapBlk m' = some (wr.heap.size + 1)) := hmb
    have HBU : Hid (But (some (bl p)) (mapBlk (mv p)) wr.drew wa) := hbut
    have HZR : Hid (w.heap.size + 1 ≤ wr.heap.size) := Nat.le_trans HW4.out HBW.out.size
    have HBa : Hid (Below (w.heap.size + 1) w4 wa) := But.below (Below.drew HBW.out) hbut HZR.out (fun g' e' => by have := HRD.out.gt.ge p hps; have := Option.some.inj e'; omega) (fun g' e' => HRD.out.gt.mge p g' hps e')
    have HXa : Hid (Nx w wa) := Below.trans HX4.out (Below.mono HBa.out (Nat.le_succ _))
    have q3 := hbut.cell HCW.out.2.1.1 (HNB.out _ (Or.inl (Nat.le_refl _))).1 (HNB.out _ (Or.inl (Nat.le_refl _))).2
    have q4 := hbut.cell HCW.out.2.1.2 (HNB.out _ (Or.inl (Nat.le_refl _))).1 (HNB.out _ (Or.inl (Nat.le_refl _))).2
    have qx3 := hbut.cell HCW.out.2.2.2.2.2.1 (HNB.out _ (Or.inl (Nat.le_of_lt hb3))).1 (HNB.out _ (Or.inl (Nat.le_of_lt hb3))).2
    have qx4 := hbut.cell HCW.out.2.2.2.2.2.2 (HNB.out _ (Or.inl (Nat.le_of_lt hb4))).1 (HNB.out _ (Or.inl (Nat.le_of_lt hb4))).2
    have HGR : Hid (g < wr.heap.size) := (own_lt HRD.out.ow g rfl).2
    clear s0 s1 s2 s3 s4 x0 x1 x3 x4 hcg k0 k1 k2 k3 k4 hg1 hg2 hmk hmb hbut
    have y1 : wa.cell? ⟨wr.heap.size, 1, none⟩ = some (.int .i64 (((Wd A p).length : Int) + 1)) := HG1.out.cell (i := 1) rfl
    have HLN : Hid ((Wd A s).length = (Wd A p).length + 1) := by
      unfold Hid
      rw [Wd_step (HOK.out s hs1 hlt).1 hs1, HP.out, Int.toNat_natCast, List.length_append]
      rfl
    by_cases hlen : (Wd A p).length + 1 ≤ 402
    case neg =>
      have HF : Hid (validI A = false) := by
        unfold Hid
        rw [vl_valid, allN_no (p := fun s => decide ((Wd A s).length ≤ 402)) (k := s) (by rw [HN.out]; exact hlt) (by simp [HLN.out]; omega)]
        simp
      have d : decide ((402 : Int) < ((Wd A p).length : Int) + 1) = true := by simp; omega
      generalize (Wd A p).length = L at *
      go_wp2
      go_ret
      exact ⟨_, rfl, HXa.out, Or.inl ⟨HF.out, rfl⟩⟩
    have d : decide ((402 : Int) < ((Wd A p).length : Int) + 1) = false := by simp; omega
    have z3 := HG1.out.frozen 3
    have y3 : wa.cell? ⟨wr.heap.size, 3, none⟩ = some (.int .i64 (-1)) := HG1.out.cell (i := 3) rfl
    have B5 : Hid (Blk (wa.setCell ⟨wr.heap.size, 3, none⟩ (.int .i64 (iat A.mu s))) wr.heap.size (node 0 (((Wd A p).length : Int) + 1) e (iat A.mu s) false (ptr (bl p)) (.pointer none) (.map none))) := HG1.out.set 3 _
    have q4' := cell_set (j := 3) q4 (by have := HZR.out; omega : w.heap.size ≠ wr.heap.size) (.int .i64 (iat A.mu s))
    have qx4' := cell_set (j := 3) qx4 (by have := HZR.out; omega : b4 ≠ wr.heap.size) (.int .i64 (iat A.mu s))
    have z4 := B5.out.frozen 4
    have y4 : (wa.setCell ⟨wr.heap.size, 3, none⟩ (.int .i64 (iat A.mu s))).cell? ⟨wr.heap.size, 4, none⟩ = some (.bool false) := B5.out.cell (i := 4) rfl
    have B6 : Hid (Blk ((wa.setCell ⟨wr.heap.size, 3, none⟩ (.int .i64 (iat A.mu s))).setCell ⟨wr.heap.size, 4, none⟩ (.bool (bat A.bd s))) wr.heap.size (node 0 (((Wd A p).length : Int) + 1) e (iat A.mu s) (bat A.bd s) (ptr (bl p)) (.pointer none) (.map none))) := B5.out.set 4 _
    have hbp : bl p ≠ wr.heap.size := Nat.ne_of_lt (HRD.out.gt.tr.nd p hps).lt
    have HG2b := (HG2.out.setOther hbp 3 (.int .i64 (iat A.mu s))).setOther hbp 4 (.bool (bat A.bd s))
    have HMKb := (HMK.out.set HG1.out 3 (.int .i64 (iat A.mu s))).set B5.out 4 (.bool (bat A.bd s))
    have HBUb := (HBU.out.setNew (Nat.le_refl wr.heap.size) 3 (.int .i64 (iat A.mu s))).setNew (Nat.le_refl wr.heap.size) 4 (.bool (bat A.bd s))
    have HOb := HRD.out.ow.keep HBUb (fun g' e' => HNB.out g' (Or.inr (Option.some.inj e').symm))
    have HBb : Hid (Below (w.heap.size + 1) w4 ((wa.setCell ⟨wr.heap.size, 3, none⟩ (.int .i64 (iat A.mu s))).setCell ⟨wr.heap.size, 4, none⟩ (.bool (bat A.bd s)))) := But.below (Below.drew HBW.out) HBUb HZR.out (fun g' e' => by have := HRD.out.gt.ge p hps; have := Option.some.inj e'; omega) (fun g' e' => HRD.out.gt.mge p g' hps e')
    have HS : Hid (∀ w' v', OwnP (w.heap.size + 1) w' v' ((List.range s).map bl ++ [wr.heap.size]) → (v'.ownBlock = some g ∨ v'.ownBlock = some (((wa.setCell ⟨wr.heap.size, 3, none⟩ (.int .i64 (iat A.mu s))).setCell ⟨wr.heap.size, 4, none⟩ (.bool (bat A.bd s))).heap.size + 1)) → But none (some g) ((wa.setCell ⟨wr.heap.size, 3, none⟩ (.int .i64 (iat A.mu s))).setCell ⟨wr.heap.size, 4, none⟩ (.bool (bat A.bd s))) w' → ∃ bl mv, RG A (s + 1) w w' v' bl mv) := fun w' v' ho hat hb => ⟨_, _, HRD.out.step hs1 HZR.out (fun t h1 h2 => (HOK.out t h1 (by omega)).1) HP.out hps hlen (by rw [HLA.out]; exact B6.out) HG2b (by rw [HLA.out]; exact HMKb) HMB.out HBUb HOb ho hat hb⟩
    have HOB : Hid (OwnP (w.heap.size + 1) ((wa.setCell ⟨wr.heap.size, 3, none⟩ (.int .i64 (iat A.mu s))).setCell ⟨wr.heap.size, 4, none⟩ (.bool (bat A.bd s))) (.slice (some ⟨g, 0, none⟩) s cg) ((List.range s).map bl)) := HOb
    have HZB : Hid (w.heap.size + 1 ≤ ((wa.setCell ⟨wr.heap.size, 3, none⟩ (.int .i64 (iat A.mu s))).setCell ⟨wr.heap.size, 4, none⟩ (.bool (bat A.bd s))).heap.size) := Nat.le_trans HW4.out HBb.out.size
    have HGC : Hid (w.heap.size + 1 ≤ g) := (own_lt HRD.out.ow g rfl).1
    clear hbp HG2b HMKb HBUb HOb
    go_upto_region 12 with fail
    generalize hwb : (wa.setCell ⟨wr.heap.size, 3, none⟩ (.int .i64 (iat A.mu s))).setCell ⟨wr.heap.size, 4, none⟩ (.bool (bat A.bd s)) = wb at *
    clear hwb q3 q4 qx3 qx4 q4' qx4' z3 z4 y1 y3 y4
    go_wp2_with (at_builtin; refine wpList_append_own_at _ rfl _ _ 64 rfl (w.heap.size + 1) 78 ii (.pointer none) 1 8 Try.underlying64 hi hz0 hz1 hz2 rfl (by decide) _ _ _ rfl (World.ownsRow.alloc HOB.out _) ⟨wb.heap.size, 0, none⟩ 1 1 [ptr wr.heap.size] rfl rfl (fun j u hj => new_cells wb _ _ _ rfl j u hj) ?c2 ?c3 ?c4 ?c5 ?_)
    case c2 => intro u hu; simp at hu; subst hu; rfl
    case c3 => rw [List.length_map, List.length_range]; unfold maxLen; omega
    case c4 => rw [List.length_map, List.length_range]; omega
    case c5 => have := HZB.out; rw [size_alloc']; omega
    intro v7 w7 hown hgrow _ hat
    have HU := (But.of_nx (o := none) (o' := some g) (box1 wb (.cells #[ptr wr.heap.size] 78))).grow hgrow (fun g hg => Or.inr hg)
    have HR7 : Hid (∃ bl mv, RG A (s + 1) w w7 v7 bl mv) := HS.out w7 v7 (OwnP.snoc (by rw [List.length_map, List.length_range]; exact hown)) hat HU
    have HB7 : Hid (Below (w.heap.size + 1) w4 w7) := But.below HBb.out HU HZB.out (by simp) (fun g' e' => by have := HGC.out; have := Option.some.inj e'; omega)
    clear hown hgrow hat HU
    go_wp2
    go_roundw
    case rel => exact ⟨s + 1, by omega, by omega, by go_num, HR7, HB7⟩
    case measure => simp [intOf]; omega
  · obtain rfl : s = n := by omega
    obtain ⟨bl, mv, hrg⟩ := HRG.out
    have HRGs : Hid (RG A s w wr u3 bl mv) := hrg
    have HTR : Hid (Trie A s) := by
      refine trie_of l1 ?_
      unfold allN
      rw [List.all_eq_true]
      intro t ht
      rw [List.mem_range] at ht
      have hv := vl_parts HV.out
      unfold okI
      by_cases e0 : t = 0
      · rw [if_pos e0]
        simp [hv.2.1.1, hv.2.1.2.1]
      · rw [if_neg e0]
        have h1 := HOK.out t (by omega) ht
        simp [h1.1, h1.2.2, hrg.ln t ht]
    have HLS : Hid (∀ t, t < s → (Wd A t).length ≤ 402) := hrg.ln
    have HPA : Hid (∀ t, 1 ≤ t → t < s → pairAsc A t = true) := fun t h1 h2 => (HOK.out t h1 h2).2.2
    obtain ⟨ag, cg, hgs⟩ := hrg.ow.slice
    rw [List.length_map, List.length_range] at hgs
    subst hgs
    obtain ⟨g, hag, hcg⟩ := hrg.ow.cell (i := 0) (by simp; omega)
    subst hag
    rw [nat_range bl (by omega)] at hcg
    unfold ptr at hcg
    have hs0 : (0 : Int) < s := by omega
    clear hrg hlt
    go_wp2_with fail
    refine (linkStates_any A s wr bl _ mv HTR.out HPA.out l2 HRGs.out.gt.tr).mono ?_
    rintro r w5 ⟨sv, fl, rfl, hso, htr, hfr⟩
    have HB5 : Hid (Blk w5 w.heap.size #[.slice a0 s c0, .slice a1 s c1, .slice a2 s c2, .slice a3 s c3, .slice a4 s c4]) := by
      obtain ⟨t, hb⟩ := HBK.out
      exact ⟨t, (hfr.block _ HBK.out.lt (fun t ht e => by have := HRGs.out.gt.ge t ht; omega)).trans hb⟩
    have HX5 : Hid (Nx w w5) := ⟨hfr.os.trans HXW.out.os, hfr.tape.trans HXW.out.tape, hfr.output.trans HXW.out.output, Nat.le_trans HXW.out.size hfr.size, fun b hb => (hfr.block b (Nat.lt_of_lt_of_le hb HXW.out.size) (fun t ht e => by have := HRGs.out.gt.ge t ht; omega)).trans (HXW.out.block b hb)⟩
    have HSO : Hid (OwnP w.heap.size w5 sv ((List.range s).map bl)) := by
      obtain ⟨h1, h2⟩ := hso
      refine ⟨h1, ?_⟩
      rcases h2 with h2 | ⟨g, cap, cur, hv, hg, r⟩
      · exact Or.inl h2
      · exact Or.inr ⟨g, cap, cur, hv, by have := HXW.out.size; omega, r⟩
    have HTF : Hid (TR A s s w5 bl fl mv (numTo s)) := htr
    obtain ⟨asv, csv, hss⟩ := hso.slice
    rw [List.length_map, List.length_range] at hss
    subst hss
    clear hso htr hfr HRG HRGs k0 k1 k2 k3 k4 hcg HBW HXW HBK
    go_wp2
    go_loopw [7, 8, 66] (fun p7 p8 jv wi => ∃ j : Nat, j ≤ s ∧ jv = .int .i64 j ∧ Hid (Nx w5 wi) ∧ Hid (∀ t, t < j → faI A s t = true)) (fun _ _ jv _ => s - (intOf jv).toNat)
    case atStart => exact ⟨0, Nat.zero_le _, rfl, Nx.refl _, fun t ht => by omega⟩
    obtain ⟨j, hjs, rfl, HNW, HFA⟩ := hrel
    by_cases hj : j < s
    · have hj' : (j : Int) < s := by omega
      obtain ⟨b2, o2, e2, _, hb2, hc2⟩ := hk2 (by omega)
      subst e2
      have HW6 : Hid (Nx w wr) := HX5.out.trans HNW.out
      have BW := HB5.out.next HNW.out
      have k2 : wr.cell? ⟨w.heap.size, 2, none⟩ = some (.slice (some ⟨b2, o2, none⟩) s c2) := BW.cell (i := 2) rfl
      have k2' := cell_regrown k2
      have xf := cell_next HW6.out hb2 (hc2 j hj)
      have xf' := cell_regrown xf
      obtain ⟨g5, hag, hcg⟩ := HSO.out.cell (i := j) (by simp; omega)
      subst hag
      rw [nat_range bl hj] at hcg
      unfold ptr at hcg
      have hcg := cellq HNW.out hcg
      have hT6 := HTF.out.keep (o := none) (o' := none) (But.of_nx HNW.out) (by simp) (by simp)
      have HT6 : Hid (TR A s s wr bl fl mv (numTo s)) := hT6
      have k6 : wr.cell? ⟨bl j, 6, none⟩ = some (fl j) := (hT6.nd j hj).cell (i := 6) rfl
      have k6' := cell_regrown k6
      have CG : Hid (∀ d os, Calls Try.prog 48 #[fl j] (Sort.grow (redrawn wr d) os) fun e w'' => e = .returned (.int .i64 (if j = 0 then -1 else (failOf A s j : Int))) ∧ ∃ p : Regrown, w'' = Sort.grow (redrawn wr p.d) p.os) := by
        intro d os
        refine Calls.regrown_of ?_
        have hT7 := HT6.out.keep (o := none) (o' := none) (But.of_nx (below_regrown wr d os)) (by simp) (by simp)
        by_cases e0 : j = 0
        · subst e0
          rw [hT7.fz, if_pos rfl]
          refine (numberOf_nil _).mono ?_
          rintro r w' ⟨rfl, rfl⟩
          exact ⟨rfl, Nx.refl _⟩
        · have hf := (fail_spec HTR.out (s := j) (by omega) hj).2
          rw [hT7.fs j (by omega) hj, if_neg e0]
          have hnum : numTo s (failOf A s j) = (failOf A s j : Int) := by unfold numTo; rw [if_pos (by omega)]
          have hnd := hT7.nd (failOf A s j) (by omega)
          rw [hnum] at hnd
          refine (numberOf_any _ _ _ _ _ _ _ _ _ _ hnd).mono ?_
          rintro r w' ⟨rfl, rfl⟩
          exact ⟨rfl, Nx.refl _⟩
      have HFJ : Hid (faI A s j = (iat A.fa j == (if j = 0 then -1 else (failOf A s j : Int)))) := rfl
      generalize (if j = 0 then -1 else (failOf A s j : Int)) = fv at *
      generalize hfx : fl j = fx at *
      generalize hfj : iat A.fa j = fj at *
      clear hc2 hk0 hk1 hk2 hk3 hk4 BW hT6 hfx
      go_wp2
      refine wp_region_quiet_below (by kernel_rfl) (by kernel_rfl) ?_
      repeat (go_big_quiet_step (exact CG.out _ _))
      refine wpQuiet_nil ?_
      intro _ hw'
      obtain ⟨⟨dq, osq⟩, hw''⟩ := hw'
      subst hw''
      have HB : Hid (Nx wr (Sort.grow (redrawn wr dq) osq)) := below_regrown wr dq osq
      by_cases hq : fj = fv
      · subst hq
        have dq' : (fj != fj) = false := by simp
        have HF3 : Hid (∀ t, t < j + 1 → faI A s t = true) := fun t ht => by
          by_cases e : t = j
          · subst e; rw [HFJ.out]; simp
          · exact HFA.out t (by omega)
        go_wp2
        go_roundw
        case rel => exact ⟨j + 1, by omega, by go_num, HNW.out.trans HB.out, HF3⟩
        case measure => simp [intOf]; omega
      · have dq' : (fj != fv) = true := by simpa using hq
        have HF3 : Hid (validI A = false) := by
          unfold Hid
          rw [vl_valid, HN.out, allN_no (p := faI A s) (k := j) hj (by rw [HFJ.out]; simpa using hq)]
          simp
        go_wp2
        go_ret
        exact ⟨_, rfl, HW6.out.trans HB.out, Or.inl ⟨HF3.out, rfl⟩⟩
    · obtain rfl : j = s := by omega
      have HF : Hid (validI A = true) := by
        have a1 : allN j (fun s => decide ((Wd A s).length ≤ 402)) = true := by
          unfold allN
          rw [List.all_eq_true]
          intro t ht
          rw [List.mem_range] at ht
          simp [HLS.out t ht]
        have a2 : allN j (faI A j) = true := by
          unfold allN
          rw [List.all_eq_true]
          intro t ht
          rw [List.mem_range] at ht
          exact HFA.out t ht
        unfold Hid
        rw [vl_valid, HN.out, HV.out, a1, a2]
        rfl
      clear hj
      go_wp2
      go_ret
      refine ⟨.slice asv j csv, rfl, HX5.out.trans HNW.out, Or.inr ⟨HF.out, bl, fl, mv, ?_⟩⟩
      rw [HN.out]
      exact ⟨HSO.out.next HNW.out, HTF.out.keep (o := none) (o' := none) (But.of_nx HNW.out) (by simp) (by simp)⟩
end Go.Proofs.Ytifefpeefcjabaa
