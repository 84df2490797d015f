import Derived.Test.YtcdjmpbdaiafgaaGreatDoorMA
namespace Go.Proofs.YtcdjmpbdaiafgaaGreatDoor
open Go.RowKit Go.Sort Go.Maps Go.Shelf
set_option linter.unusedVariables false
set_option maxRecDepth 100000
attribute [local go_sem] Oper.semAt_some

theorem anyS_two {F : Fence} {n : Nat} {P : Program} {ops : Array Oper} {Q : Exit → Act → World → Prop} {md : Region.Mode} {S : World → Prop} {c i j fuel : Nat} {listed : Array Bool} {a : Act} {w : World} (hr : Region.ready md ops listed = [i, j]) (h1 : wpOpIn F n P ops Q i (fun a' w' => (c ≤ i ∨ S w') ∧ wpAnyS F n P md ops Q S c fuel (listed.setIfInBounds i true) a' w') a w) (h2 : wpOpIn F n P ops Q j (fun a' w' => (c ≤ j ∨ S w') ∧ wpAnyS F n P md ops Q S c fuel (listed.setIfInBounds j true) a' w') a w) : wpAnyS F n P md ops Q S c (fuel + 1) listed a w :=
  ⟨fun h0 => absurd (hr ▸ h0) (by simp), fun x hx => by
    rw [hr] at hx
    simp at hx
    rcases hx with rfl | rfl
    · exact h1
    · exact h2⟩
theorem one_ints {w : World} {g t : Nat} {x : Int} (h : BT w g #[.int .i64 x] t) : HInts 0 w (.slice (some ⟨g, 0, none⟩) 1 1) [x] := by
  refine ⟨_, _, rfl, by simp [maxLen], fun _ => ⟨g, 0, rfl, Nat.zero_le _, h.lt, fun i hi => ?_⟩⟩
  have hi0 : i = 0 := by simpa using hi
  subst hi0
  exact h.blk.cell (i := 0) rfl
theorem LR.wayP {C : Nat} {N : Nt} {w : World} {L : Lk} {m : Nat} (h : LR C N (E1 N) N.ways.length m m m N.ways.length w L) (hv : implValid N = true) (hm : m = (E1 N).length) {id : Int} (hid : hasW N.ways id = true) :
    w.cell? ⟨L.wb (wpos N.ways id), 1, none⟩ = some (L.vs (wpos N.ways id)) ∧ HPtrs C w (L.vs (wpos N.ways id)) ((ofTo (E1 N) (wpos N.ways id) (E1 N).length).map L.eb) ∧ (ofTo (E1 N) (wpos N.ways id) (E1 N).length).length ≤ 4000 ∧ ∀ e ∈ ofTo (E1 N) (wpos N.ways id) (E1 N).length, EB w (L.eb e) e (eat (E1 N) e) := by
  subst hm
  have hp := wpos_lt hid
  refine ⟨(h.way _ hp).blk.cell (i := 1) rfl, (h.row _ hp).held, ?_, fun e he => (h.edge e (ofTo_lt he)).eb⟩
  refine Nat.le_trans (List.length_filter_le _ _) ?_
  rw [List.length_range]
  exact E1_le' hv
theorem iat_nums {l : List Nat} {i : Nat} (h : i < l.length) : iat (nums l) i = (natat l i : Int) := by
  simp [iat, nums, natat, List.getD_eq_getElem?_getD, h]
/-- what chains' function reads -/
def InvC (N : Nt) (L : Lk) (wR : World) (r : Rl) (vw : Value) (b2 b3 b5 b6 : Nat) (W : World) : Prop := Ck noX noX wR W ∧ HInts 0 W L.v0 N.nodes ∧ HInts 0 W vw r.ways ∧ BT W b2 #[.pointer (some ⟨L.br, 0, none⟩)] 65 ∧ BT W b3 #[.int .i64 r.id, .bool r.only, .int .i64 r.frm, .int .i64 r.to, .bool r.via, .int .i64 r.node, vw] 93 ∧ BT W b5 #[.pointer (some ⟨L.wb (wpos N.ways r.frm), 0, none⟩)] 116 ∧ BT W b6 #[.pointer (some ⟨L.wb (wpos N.ways r.to), 0, none⟩)] 116
theorem mid_short {N : Nt} {r : Rl} (hv : implValid N = true) (hg : RelG N r) {k : Nat} (hk : k < (midS N r).length) : (sxat (midS N r) k).l.length ≤ 16000 := by
  unfold midS at hk ⊢
  cases hvia : r.via
  · rw [hvia] at hk
    simp only [Bool.false_eq_true, if_false] at hk ⊢
    obtain ⟨l, hl, el⟩ := sx_mem hk
    have h4 := (hg.one hvia)
    have h1 := midL_good hv hg hvia (r.ways.length - 1) (by omega) l hl
    rw [el]
    simp only [sxOf]
    omega
  · rw [hvia] at hk
    simp only [if_true] at hk ⊢
    have : k = 0 := by simpa using hk
    subst this
    simp [sxat]

set_option maxHeartbeats 8000000 in
theorem chains1_in (C z : Nat) (N : Nt) (L : Lk) (wR : World) (r : Rl) (vw : Value) (b2 b3 b5 b6 : Nat) (hv : implValid N = true) (hR : LR C N (E1 N) N.ways.length (E1 N).length (E1 N).length (E1 N).length N.ways.length wR L) (hz : wR.heap.size ≤ z) (hg : RelG N r) (hcp : CapOk vw) (X : Nat → Prop) (l m : Nat) (J : Nat → World → Prop) (Jx : World → Prop) (W : World) (hX : ∀ b, X b → z ≤ b ∧ b < W.heap.size)
    (hInv : ∀ B, Ck X noX W B → InvC N L wR r vw b2 b3 b5 b6 B) (hJ : ∀ k A B, J k A → Ck noX (fun b => b < W.heap.size) A B → J k B) (hJx : ∀ A B, Jx A → Ck noX (fun b => b < W.heap.size) A B → Jx B)
    (hY : ∀ k args W1, k < (chP N r).length → J k W1 → Ck X noX W W1 → PyC (chP N r) W.heap.size k args W1 → YieldAt Fence.wide m Tryz.prog l args W1 fun e W' => Ck X (fun b => W.heap.size ≤ b) W1 W' ∧ ((e = .returned (.bool true) ∧ J (k + 1) W') ∨ (e = .returned (.bool false) ∧ Jx W')))
    (h0 : J 0 W) :
    Calls Tryz.prog 105 #[.func (.yield l) #[] #[], .pointer (some ⟨b2, 0, none⟩), .pointer (some ⟨b3, 0, none⟩), .pointer (some ⟨b5, 0, none⟩), .pointer (some ⟨b6, 0, none⟩)] W fun e W' => (∃ v, e = .returned v) ∧ Ck X noX W W' ∧ (J (chP N r).length W' ∨ Jx W') := by
  have HV : Hid (implValid N = true) := hv
  have HR : Hid (LR C N (E1 N) N.ways.length (E1 N).length (E1 N).length (E1 N).length N.ways.length wR L) := hR
  have HZ : Hid (wR.heap.size ≤ z) := hz
  have HG : Hid (RelG N r) := hg
  have HIN : Hid (∀ B, Ck X noX W B → InvC N L wR r vw b2 b3 b5 b6 B) := hInv
  have HJ : Hid (∀ k A B, J k A → Ck noX (fun b => b < W.heap.size) A B → J k B) := hJ
  have HJX : Hid (∀ A B, Jx A → Ck noX (fun b => b < W.heap.size) A B → Jx B) := hJx
  have HY : Hid (∀ k args W1, k < (chP N r).length → J k W1 → Ck X noX W W1 → PyC (chP N r) W.heap.size k args W1 → YieldAt Fence.wide m Tryz.prog l args W1 fun e W' => Ck X (fun b => W.heap.size ≤ b) W1 W' ∧ ((e = .returned (.bool true) ∧ J (k + 1) W') ∨ (e = .returned (.bool false) ∧ Jx W'))) := hY
  have HJ0 : Hid (J 0 W) := h0
  have HX : Hid (∀ b, X b → z ≤ b ∧ b < W.heap.size) := hX
  have HCP : Hid (CapOk vw) := hcp
  obtain ⟨va, vn, vc, rfl, _⟩ := hcp
  have HI0 : Hid (InvC N L wR r (.slice va vn vc) b2 b3 b5 b6 W) := hInv W (Ck.refl _ _ _)
  have x1 := cellq (box1 W (.cells #[.func (.yield l) #[] #[]] 163)) (HI0.out.2.2.2.1.blk.cell (i := 0) rfl)
  have hb3 := HI0.out.2.2.2.2.1.next (box1 W (.cells #[.func (.yield l) #[] #[]] 163))
  have d0 := hb3.blk.cell (i := 0) rfl
  have d1 := hb3.blk.cell (i := 1) rfl
  have d2 := hb3.blk.cell (i := 2) rfl
  have d3 := hb3.blk.cell (i := 3) rfl
  have d4 := hb3.blk.cell (i := 4) rfl
  have d5 := hb3.blk.cell (i := 5) rfl
  have d6 := hb3.blk.cell (i := 6) rfl
  clear hv hR hz hg hInv hJ hJx hY h0 hX hb3
  refine (callsIn_wide (n := m + 1)).1 (callsIn_of_wp_marks Tryz.func105 rfl trivial ?_ rfl)
  refine wpIn_wide.2 ?_
  simp only [Tryz.ntmps105, List.size_toArray, List.length_cons, List.length_nil, Nat.reduceAdd, Nat.reduceSub, Array.replicate_succ, Array.replicate_zero, List.push_toArray, List.append_toArray, List.nil_append, List.cons_append]
  go_wp2_with fail
  generalize hW0 : W.alloc (.cells #[.func (.yield l) #[] #[]] 163) = w0
  have HX0 : Hid (Nx W w0) := by unfold Hid; rw [← hW0]; exact box1 _ _
  have HS0 : Hid (w0.heap.size = W.heap.size + 1) := by unfold Hid; rw [← hW0]; simp
  have HB0 : Hid (BT w0 W.heap.size #[.func (.yield l) #[] #[]] 163) := by unfold Hid; rw [← hW0]; exact BT.new _ _ _ _ rfl
  clear hW0 x1 d0 d1 d2 d3 d4 d5 d6
  refine (middles_any C 0 N L wR r _ _ HV.out HR.out (HI0.out.1.trans (Ck.nx HX0.out)) (HI0.out.2.1.next HX0.out) (HI0.out.2.2.1.next HX0.out) HG.out HCP.out).mono ?_
  rintro e w1 ⟨⟨fv, rfl, gf, lb, Inv, rfl, hG, heg, hFI⟩, hx1⟩
  have HGM : Hid (Gives Tryz.prog gf lb (PyS wR.heap.size (midS N r)) wR.heap.size (midS N r).length Inv) := hG
  have HEG : Hid (∀ args w, (callFunc gf args).run Tryz.prog w = .ok (.enter gf args) w) := heg
  have HFI : Hid (∀ (X : Nat → Prop) B, (∀ b, X b → wR.heap.size ≤ b ∧ b < w0.heap.size) → Ck X noX w1 B → Inv B) := hFI
  have HX1 : Hid (Nx w0 w1) := hx1
  have HXW : Hid (Nx W w1) := HX0.out.trans hx1
  have HZ1 : Hid (w0.heap.size ≤ w1.heap.size) := hx1.size
  have HB1 : Hid (BT w1 W.heap.size #[.func (.yield l) #[] #[]] 163) := HB0.out.next hx1
  clear hG heg hFI hx1
  go_wp2_with fail
  refine (wpIn_wide (n := m + 1)).1 ?_
  refine range_gives HGM.out rfl HEG.out X ?hX ?hps ?hPy ?hInv (fun k W' => J (chTo (E1 N) (firstsR N (E1 N) r) (lastsR N (E1 N) r) (midS N r) k 0 0).length W' ∧ BT W' W.heap.size #[.func (.yield l) #[] #[]] 163) Jx ?hI ?hIx ?h0 (fun args a' W' => ∃ Ba ta ha u, args = #[.agg #[.int .i64 ta, .int .i64 ha, u]] ∧ w1.heap.size ≤ Ba ∧ BT W' Ba #[.int .i64 ta, .int .i64 ha, u] 160 ∧ a' = ⟨#[.func (.yield l) #[] #[], .pointer (some ⟨b2, 0, none⟩), .pointer (some ⟨b3, 0, none⟩), .pointer (some ⟨b5, 0, none⟩), .pointer (some ⟨b6, 0, none⟩), .pointer (some ⟨W.heap.size, 0, none⟩), .pointer (some ⟨Ba, 0, none⟩), undef, undef, undef, undef, undef, undef, .pointer (some ⟨L.br, 0, none⟩), .agg #[.int .i64 r.id, .bool r.only, .int .i64 r.frm, .int .i64 r.to, .bool r.via, .int .i64 r.node, .slice va vn vc], .func (.func gf) #[] lb, .agg #[.int .i64 ta, .int .i64 ha, u], undef, undef, undef, undef, undef, undef, undef, undef, undef, undef, undef, undef, undef, undef, undef, undef, undef, undef, undef, undef, undef, undef, undef, undef, undef, undef, undef, undef, undef, undef, undef], []⟩) ?hAx ?assign ?body ?done ?stop
  case hX => intro b h; have := HX.out b h; have := HS0.out; have := HZ1.out; have := HZ.out; exact ⟨by omega, by omega⟩
  case hps => rintro k args W ⟨u, rfl, _⟩; rfl
  case hPy => rintro k args A B ⟨u, h1, h2, h3⟩ hc; exact ⟨u, h1, h2.ck hc, h3⟩
  case hInv => exact fun B hc => HFI.out X B (fun b h => by have := HX.out b h; have := HS0.out; have := HZ.out; exact ⟨by omega, by omega⟩) hc
  case hI => exact fun k A B h hc => ⟨HJ.out _ A B h.1 (hc.mono (fun _ x => x) (fun b q => by have := HS0.out; have := HZ1.out; omega)), h.2.ck hc id⟩
  case hIx => exact fun A B h hc => HJX.out A B h (hc.mono (fun _ x => x) (fun b q => by have := HS0.out; have := HZ1.out; omega))
  case h0 => exact ⟨by rw [chTo_start]; exact HJ.out 0 _ _ HJ0.out (Ck.nx HXW.out), HB1.out⟩
  case hAx => rintro args a' A B ⟨Ba, ta, ha, u, h1, h2, h3, h4⟩ hc; exact ⟨Ba, ta, ha, u, h1, h2, h3.ck hc id, h4⟩
  case assign =>
    rintro l' k args W' K hk hWz ⟨u, rfl, hu, _⟩ hK
    obtain ⟨ua, uc, rfl, _⟩ := hu.slice
    clear hu
    have HWZ : Hid (w1.heap.size ≤ W'.heap.size) := hWz
    clear hWz
    gi_wp2
    exact hK _ _ (box1 _ _) ⟨W'.heap.size, _, _, _, rfl, HWZ.out, BT.new _ _ _ _ rfl, rfl⟩
  case done =>
    intro D W' hDw hI hc hD
    have HF : Hid (J (chP N r).length W') := by unfold Hid chP; rw [← chTo_all]; exact hI.1
    have HCW : Hid (Ck X noX W W') := (Ck.nx HXW.out).trans hc
    clear hI hc
    go_wp2
    refine leaves_mark D _ hD (fun W2 ho => ?_)
    refine ⟨_, results_none rfl _ _ _, ⟨_, rfl⟩, HCW.out.trans (ho.mono (fun _ x => x.elim) (fun _ x => x.elim)), Or.inl (HJ.out _ _ _ HF.out (ho.mono (fun _ x => x) (fun b q => by have := HS0.out; have := HZ1.out; omega)))⟩
  case stop =>
    intro D W' hDw hI hc hD
    have HCW : Hid (Ck X noX W W') := (Ck.nx HXW.out).trans hc
    refine wpIn_wide.2 ?_
    go_wp2
    refine leaves_mark D _ hD (fun W2 ho => ?_)
    refine ⟨_, results_none rfl _ _ _, ⟨_, rfl⟩, HCW.out.trans (ho.mono (fun _ x => x.elim) (fun _ x => x.elim)), Or.inr (HJX.out _ _ hI (ho.mono (fun _ x => x) (fun b q => by have := HS0.out; have := HZ1.out; omega)))⟩
  case body =>
    rintro l' k args a' w2 hk ⟨hJ1, hBY⟩ ⟨u, rfl, hu, hlu, hcu⟩ ⟨Ba, ta, ha, u', e', hBa, hbt, rfl⟩ hc
    have e2 : (sxat (midS N r) k).t = ta ∧ (sxat (midS N r) k).h = ha ∧ u = u' := by simpa using e'
    obtain ⟨rfl, rfl, rfl⟩ := e2
    clear e'
    obtain ⟨ua, uc, rfl, _⟩ := hu.slice
    have HU : Hid (HInts 0 w2 (.slice ua (nums (sxat (midS N r) k).l).length uc) (nums (sxat (midS N r) k).l)) := hu
    have HCU : Hid (CapOk (.slice ua (nums (sxat (midS N r) k).l).length uc)) := hcu
    have HLU : Hid (Lies wR.heap.size (w1.heap.size + 2) (.slice ua (nums (sxat (midS N r) k).l).length uc)) := hlu
    have HJ1 : Hid (J (chTo (E1 N) (firstsR N (E1 N) r) (lastsR N (E1 N) r) (midS N r) k 0 0).length w2) := hJ1
    have HBY : Hid (BT w2 W.heap.size #[.func (.yield l) #[] #[]] 163) := hBY
    generalize hun : (nums (sxat (midS N r) k).l).length = un at *
    have HUN : Hid ((nums (sxat (midS N r) k).l).length = un) := hun
    have HBA : Hid (w1.heap.size ≤ Ba ∧ BT w2 Ba #[.int .i64 (sxat (midS N r) k).t, .int .i64 (sxat (midS N r) k).h, .slice ua un uc] 160) := ⟨hBa, hbt⟩
    have HC2 : Hid (Ck X noX W w2) := (Ck.nx HXW.out).trans hc
    have HI2 : Hid (InvC N L wR r (.slice va vn vc) b2 b3 b5 b6 w2) := HIN.out w2 HC2.out
    have HL2 : Hid (LR C N (E1 N) N.ways.length (E1 N).length (E1 N).length (E1 N).length N.ways.length w2 L) := HR.out.ck HI2.out.1
    have y5 := HI2.out.2.2.2.2.2.1.blk.cell (i := 0) rfl
    have y6 := HI2.out.2.2.2.2.2.2.blk.cell (i := 0) rfl
    have hmf : ∀ (fn : Fn) (first cap : Array Value) (w : World), (Instr.makeFunc fn first cap).run Tryz.prog w = .ok (.func fn first cap) w := fun _ _ _ _ => rfl
    have HPE := mkHid (HL2.out.wayP HV.out rfl HG.out.frm)
    have HPS := mkHid (HL2.out.wayP HV.out rfl HG.out.dst)
    clear hu hlu hcu hJ1 hBa hbt hc hBY hun
    gi_wp2_with (refine ⟨trivial, ?_⟩; gi_at_call 107; first | (refine (CallsIn.inRound l' (callsIn_wide.2 (pickEnd_any C _ Ba _ (E1 N) L.eb _ _ _ HPE.out.1 HPE.out.2.1 HPE.out.2.2.1 HPE.out.2.2.2 (HBA.out.2.blk.cell (i := 0) rfl)))).mono ?_; rintro e w3 ⟨⟨ue, rfl, hue0⟩, hx3⟩; have hue : OwnI w2.heap.size w3 ue (nums (endsOf (E1 N) (firstsR N (E1 N) r) (sxat (midS N r) k))) := hue0; clear hue0; obtain ⟨ea, ec, rfl⟩ := row_slice hue; generalize hne : (nums (endsOf (E1 N) (firstsR N (E1 N) r) (sxat (midS N r) k))).length = ne at *; have y6' := cellq hx3 y6; have HPL : Hid (_ ≤ 4000) := HPE.out.2.2.1; clear HPE) | (refine (CallsIn.inRound l' (callsIn_wide.2 (pickStart_any C _ Ba _ (E1 N) L.eb _ _ _ (by exact cellq hx3 HPS.out.1) (by exact HPS.out.2.1.next hx3) HPS.out.2.2.1 (fun e he => (HPS.out.2.2.2 e he).next hx3) (by exact cellq hx3 (HBA.out.2.blk.cell (i := 1) rfl))))).mono ?_; rintro e w4 ⟨⟨us, rfl, hus0⟩, hx4⟩; have hus : OwnI w3.heap.size w4 us (nums (startsOf (E1 N) (lastsR N (E1 N) r) (sxat (midS N r) k))) := hus0; clear hus0; obtain ⟨sa, sc, rfl⟩ := row_slice hus; generalize hns : (nums (startsOf (E1 N) (lastsR N (E1 N) r) (sxat (midS N r) k))).length = ns at *))
    have HNE : Hid ((endsOf (E1 N) (firstsR N (E1 N) r) (sxat (midS N r) k)).length = ne) := by unfold Hid; rw [← hne, nums_len]
    have HNS : Hid ((startsOf (E1 N) (lastsR N (E1 N) r) (sxat (midS N r) k)).length = ns) := by unfold Hid; rw [← hns, nums_len]
    have hneb : ne ≤ 4000 := by rw [← HNE.out]; exact Nat.le_trans (List.length_filter_le _ _) HPL.out
    have hnsb : ns ≤ 4000 := by rw [← HNS.out]; exact Nat.le_trans (List.length_filter_le _ _) HPS.out.2.2.1
    have HX24 : Hid (Nx w2 w4) := hx3.trans hx4
    have HZ2 : Hid (W.heap.size ≤ w2.heap.size ∧ w2.heap.size ≤ w3.heap.size) := ⟨HC2.out.size, hx3.size⟩
    have HUE : Hid (OwnI w2.heap.size w4 (.slice ea ne ec) (nums (endsOf (E1 N) (firstsR N (E1 N) r) (sxat (midS N r) k)))) := OwnI.next hue hx4
    have HUS : Hid (OwnI w3.heap.size w4 (.slice sa ns sc) (nums (startsOf (E1 N) (lastsR N (E1 N) r) (sxat (midS N r) k)))) := hus
    have HU4 : Hid (HInts 0 w4 (.slice ua un uc) (nums (sxat (midS N r) k).l)) := HU.out.next HX24.out
    have HBA4 : Hid (BT w4 Ba #[.int .i64 (sxat (midS N r) k).t, .int .i64 (sxat (midS N r) k).h, .slice ua un uc] 160) := HBA.out.2.next HX24.out
    have HBY4 : Hid (BT w4 W.heap.size #[.func (.yield l) #[] #[]] 163) := HBY.out.next HX24.out
    have HJ4 : Hid (J (chTo (E1 N) (firstsR N (E1 N) r) (lastsR N (E1 N) r) (midS N r) k 0 0).length w4) := HJ.out _ _ _ HJ1.out (Ck.nx HX24.out)
    have HC4 : Hid (Ck X noX W w4) := HC2.out.trans (Ck.nx HX24.out)
    have HMS : Hid ((sxat (midS N r) k).l.length ≤ 16000) := mid_short HV.out HG.out hk
    clear hue hus hx3 hx4 hne hns y5 y6 y6' HPS HJ1
    gi_loopw [10, 12, 25, 31] (fun p10 p12 i p31 wr => ∃ c : Nat, c ≤ ne ∧ i = .int .i64 c ∧ Hid (J (chTo (E1 N) (firstsR N (E1 N) r) (lastsR N (E1 N) r) (midS N r) k c 0).length wr) ∧ Hid (Ck X (fun b => w1.heap.size ≤ b) w4 wr)) (fun _ _ i _ _ => ne - (intOf i).toNat)
    case atStart => exact ⟨0, Nat.zero_le _, rfl, HJ4, Ck.refl _ _ _⟩
    case round =>
      clear HJ4
      obtain ⟨c, hc, rfl, HJc, HCc⟩ := hrel
      by_cases hlt : c < ne
      · have HEI : Hid (HInts 0 wr (.slice ea ne ec) (nums (endsOf (E1 N) (firstsR N (E1 N) r) (sxat (midS N r) k)))) := (OwnI.base HUE.out (Nat.zero_le _)).held.ckX HCc.out (fun g hg x => by have h1 := HX.out _ x; have h2 := own_lt HUE.out g hg; have := HZ2.out; omega)
        obtain ⟨ea', ec', hse, _, hk0⟩ := HEI.out
        obtain ⟨be, oe, rfl, _, _, hce⟩ := hk0 (by rw [nums_len, HNE.out]; omega)
        simp only [Value.slice.injEq] at hse
        obtain ⟨rfl, hzz, rfl⟩ := hse
        have xe : wr.cell? ⟨be, oe + c, none⟩ = some (.int .i64 (natat (endsOf (E1 N) (firstsR N (E1 N) r) (sxat (midS N r) k)) c : Int)) := by rw [← iat_nums (by rw [HNE.out]; exact hlt)]; exact hce c (by rw [nums_len, HNE.out]; exact hlt)
        have hlt' : (c : Int) < ne := by omega
        generalize hna : natat (endsOf (E1 N) (firstsR N (E1 N) r) (sxat (midS N r) k)) c = na at xe
        have HNA : Hid (natat (endsOf (E1 N) (firstsR N (E1 N) r) (sxat (midS N r) k)) c = na) := hna
        clear hk0 hce hzz hna
        gi_wp2
        clear xe
        gi_loopw [12, 31] (fun p12 i wq => ∃ d : Nat, d ≤ ns ∧ i = .int .i64 d ∧ Hid (J (chTo (E1 N) (firstsR N (E1 N) r) (lastsR N (E1 N) r) (midS N r) k c d).length wq) ∧ Hid (Ck X (fun b => w1.heap.size ≤ b) w4 wq)) (fun _ i _ => ns - (intOf i).toNat)
        case atStart => exact ⟨0, Nat.zero_le _, rfl, HJc, HCc⟩
        case round =>
          clear HJc HCc HEI
          obtain ⟨d, hd, rfl, HJd, HCd⟩ := hrel
          by_cases hlt2 : d < ns
          · have HSI : Hid (HInts 0 wr (.slice sa ns sc) (nums (startsOf (E1 N) (lastsR N (E1 N) r) (sxat (midS N r) k)))) := (OwnI.base HUS.out (Nat.zero_le _)).held.ckX HCd.out (fun g hg x => by have h1 := HX.out _ x; have h2 := own_lt HUS.out g hg; have := HZ2.out; omega)
            obtain ⟨sa', sc', hse, _, hk0⟩ := HSI.out
            obtain ⟨bs, os, rfl, _, _, hce⟩ := hk0 (by rw [nums_len, HNS.out]; omega)
            simp only [Value.slice.injEq] at hse
            obtain ⟨rfl, hzz, rfl⟩ := hse
            have xs : wr.cell? ⟨bs, os + d, none⟩ = some (.int .i64 (natat (startsOf (E1 N) (lastsR N (E1 N) r) (sxat (midS N r) k)) d : Int)) := by rw [← iat_nums (by rw [HNS.out]; exact hlt2)]; exact hce d (by rw [nums_len, HNS.out]; exact hlt2)
            have hlt2' : (d : Int) < ns := by omega
            have nXW : ∀ b, W.heap.size ≤ b → ¬ X b := fun b q x => by have := (HX.out _ x).2; omega
            have HUr : Hid (HInts 0 wr (.slice ua un uc) (nums (sxat (midS N r) k).l)) := HU4.out.ckX HCd.out (fun g hg x => by have h1 := HX.out _ x; have h2 := HS0.out; have h3 := HZ1.out; have h4 := HZ.out; rcases HLU.out g hg with q | q <;> omega)
            have HBAr : Hid (BT wr Ba #[.int .i64 (sxat (midS N r) k).t, .int .i64 (sxat (midS N r) k).h, .slice ua un uc] 160) := HBA4.out.ck HCd.out (nXW _ (by have := HBA.out.1; have := HXW.out.size; omega))
            have HBYr : Hid (BT wr W.heap.size #[.func (.yield l) #[] #[]] 163) := HBY4.out.ck HCd.out (nXW _ (Nat.le_refl _))
            have HCW : Hid (Ck X noX W wr) := HC4.out.trans (HCd.out.mono (fun _ x => x) (fun _ x => x.elim))
            have hnx := chTo_next (E1 N) (firstsR N (E1 N) r) (lastsR N (E1 N) r) hk (show c < (endsOf (E1 N) (firstsR N (E1 N) r) (sxat (midS N r) k)).length by rw [HNE.out]; exact hlt) (show d < (startsOf (E1 N) (lastsR N (E1 N) r) (sxat (midS N r) k)).length by rw [HNS.out]; exact hlt2)
            have hsu := chTo_succ (i := c) (E1 N) (firstsR N (E1 N) r) (lastsR N (E1 N) r) (show d < (startsOf (E1 N) (lastsR N (E1 N) r) (sxat (midS N r) k)).length by rw [HNS.out]; exact hlt2)
            rw [HNA.out] at hnx hsu
            generalize hnb : natat (startsOf (E1 N) (lastsR N (E1 N) r) (sxat (midS N r) k)) d = nb at xs hnx hsu
            have HNXT := mkHid hnx
            have HSUC := mkHid hsu
            clear hk0 hce hzz hnb hnx hsu
            gi_wp2
            clear xs
            have HSN : Hid (∀ q, Nx wr q → (fun q => q.cell? ⟨W.heap.size, 0, none⟩ = some (.func (.yield l) #[] #[]) ∧ q.cell? ⟨Ba, 2, none⟩ = some (.slice ua un uc)) q) := fun q hq => ⟨cellq hq (HBYr.out.blk.cell (i := 0) rfl), cellq hq (HBAr.out.blk.cell (i := 2) rfl)⟩
            have hmx2 : Tryz.prog.follows .mixedOrders = true := by kernel_rfl
            have HSS : Hid ((fun q => q.cell? ⟨W.heap.size, 0, none⟩ = some (.func (.yield l) #[] #[]) ∧ q.cell? ⟨Ba, 2, none⟩ = some (.slice ua un uc)) wr.drew) := HSN.out _ (show Nx wr wr.drew from (Below.refl _ _).drew)
            refine wpIn_region_S (c := 9) (S := fun q => q.cell? ⟨W.heap.size, 0, none⟩ = some (.func (.yield l) #[] #[]) ∧ q.cell? ⟨Ba, 2, none⟩ = some (.slice ua un uc)) hmx2 (by kernel_rfl) (fun hw hcl => ?_)
            refine anyS_take (i := 0) (v := .func (.yield l) #[] #[]) hw (by decide) hcl (noDefer_round (by kernel_rfl)) rfl (by kernel_rfl) (by kernel_rfl) (by kernel_rfl) (fun _ _ _ h => h) ⟨Or.inl ⟨by kernel_rfl, ?y0⟩, fun _ => rfl⟩ HSS.out (fun hcl => ?_)
            case y0 =>
              rintro q ⟨c1, c2⟩
              go_simp
            refine anyS_take (i := 1) (v := .int .i64 (na : Int)) hw (by decide) hcl (noDefer_round (by kernel_rfl)) rfl (by kernel_rfl) (by kernel_rfl) (by kernel_rfl) (fun _ _ _ h => h) ⟨Or.inl ⟨by kernel_rfl, ?y1⟩, fun _ => rfl⟩ HSS.out (fun hcl => ?_)
            case y1 =>
              rintro q ⟨c1, c2⟩
              go_simp
            refine anyS_take (i := 3) (v := .pointer (some ⟨Ba, 2, none⟩)) hw (by decide) hcl (noDefer_round (by kernel_rfl)) rfl (by kernel_rfl) (by kernel_rfl) (by kernel_rfl) (fun _ _ _ h => h) ⟨Or.inl ⟨by kernel_rfl, ?y3⟩, fun _ => rfl⟩ HSS.out (fun hcl => ?_)
            case y3 =>
              rintro q ⟨c1, c2⟩
              go_simp
            refine anyS_take (i := 4) (v := .slice ua un uc) hw (by decide) hcl (noDefer_round (by kernel_rfl)) rfl (by kernel_rfl) (by kernel_rfl) (by kernel_rfl) (fun _ _ _ h => h) ⟨Or.inl ⟨by kernel_rfl, ?y4⟩, fun _ => rfl⟩ HSS.out (fun hcl => ?_)
            case y4 =>
              rintro q ⟨c1, c2⟩
              go_simp
            refine anyS_take (i := 5) (v := .int .i64 (nb : Int)) hw (by decide) hcl (noDefer_round (by kernel_rfl)) rfl (by kernel_rfl) (by kernel_rfl) (by kernel_rfl) (fun _ _ _ h => h) ⟨Or.inl ⟨by kernel_rfl, ?y5⟩, fun _ => rfl⟩ HSS.out (fun hcl => ?_)
            case y5 =>
              rintro q ⟨c1, c2⟩
              go_simp
            refine anyS_two (i := 2) (j := 6) (by kernel_rfl) (wpOpIn_step rfl (fun K hK => ?_)) (wpOpIn_step rfl (fun K hK => ?_))
            · go_simp
              generalize hWa : (wr.alloc (.cells #[.int .i64 (na : Int)] 2)).drew = wa
              have HXa : Hid (Nx wr wa) := by unfold Hid; rw [← hWa]; exact (box1 _ _).drew
              have HGa0 : Hid (BT wa wr.heap.size #[.int .i64 (na : Int)] 2) := by unfold Hid; rw [← hWa]; exact BT.new wr _ _ _ rfl
              clear hWa
              refine hK _ _ ⟨Or.inr (HSN.out _ HXa.out), ?_⟩
              clear hK K
              refine anyS_one (i := 6) (by kernel_rfl) (wpOpIn_step rfl (fun K hK => ?_))
              go_simp
              generalize hWb : wa.alloc (.cells #[.int .i64 (nb : Int)] 2) = wb
              have HXab : Hid (Nx wa wb) := by unfold Hid; rw [← hWb]; exact box1 _ _
              have HXb : Hid (Nx wr wb) := HXa.out.trans HXab.out
              have HGb0 : Hid (BT wb wa.heap.size #[.int .i64 (nb : Int)] 2) := by unfold Hid; rw [← hWb]; exact BT.new wa _ _ _ rfl
              clear hWb
              refine hK _ _ ⟨Or.inr (HSN.out _ HXb.out), ?_⟩
              clear hK K
              refine anyS_one (i := 7) (by kernel_rfl) (wpOpIn_step rfl (fun K hK => ?_))
              go_simp
              generalize hWc : wb.alloc (.cells #[.slice (some ⟨wr.heap.size, 0, none⟩) 1 1, .slice ua un uc, .slice (some ⟨wa.heap.size, 0, none⟩) 1 1] 22) = wc
              have HXbc : Hid (Nx wb wc) := by unfold Hid; rw [← hWc]; exact box1 _ _
              have HXc : Hid (Nx wr wc) := HXb.out.trans HXbc.out
              have HGa := (HGa0.out.next HXab.out).next HXbc.out
              have HGb := HGb0.out.next HXbc.out
              have HWD : Hid (HWords 0 wc (.slice (some ⟨wb.heap.size, 0, none⟩) 3 3) [[(na : Int)], nums (sxat (midS N r) k).l, [(nb : Int)]]) := words3 (t := 22) (by rw [← hWc]; exact BT.new wb _ _ _ rfl) (one_ints HGa) ⟨_, _, _, rfl, Nat.le_refl _⟩ (HUr.out.next HXc.out) HCU.out (one_ints HGb) ⟨_, _, _, rfl, Nat.le_refl _⟩
              clear hWc HGa HGb
              refine hK _ _ ⟨Or.inr (HSN.out _ HXc.out), ?_⟩
              clear hK K
              refine anyS_one (i := 8) (by kernel_rfl) (wpOpIn_step rfl (fun K hK => ?_))
              go_simp
              refine ⟨trivial, (callsIn_wide.2 (concat_any 0 _ _ wc HWD.out (by simp) (by have := HMS.out; simp [nums_len]; omega) (by simp))).mono ?_⟩
              rintro e w7 ⟨⟨u7, rfl, hu7⟩, hx7⟩
              have HXc7 : Hid (Nx wc w7) := hx7
              have HU7 : Hid (OwnI wc.heap.size w7 u7 (nums (ch1 (sxat (midS N r) k) na nb))) := by unfold Hid; simpa [ch1, nums] using hu7
              obtain ⟨a7, c7, rfl⟩ := row_slice HU7.out
              clear hu7 hx7
              generalize hn7 : (nums (ch1 (sxat (midS N r) k) na nb)).length = n7 at *
              clear hn7
              have HX7 : Hid (Nx wr w7) := HXc.out.trans HXc7.out
              refine hK _ _ ⟨Or.inr (HSN.out _ HX7.out), ?_⟩
              clear hK K
              have HCW7 : Hid (Ck X noX W w7) := HCW.out.trans (Ck.nx HX7.out)
              obtain ⟨fn, tmps, assign, body, hy, hR⟩ := HY.out (chTo (E1 N) (firstsR N (E1 N) r) (lastsR N (E1 N) r) (midS N r) k c d).length #[.slice a7 n7 c7] w7 HNXT.out.1 (HJ.out _ _ _ HJd.out (Ck.nx HX7.out)) HCW7.out ⟨_, rfl, by unfold chP; rw [HNXT.out.2]; exact OwnI.base HU7.out (Nat.le_trans HCW.out.size HXc.out.size), by unfold chP; rw [HNXT.out.2]; simp [ch1]⟩
              have HR : Hid (RoundIn Fence.wide m Tryz.prog l fn tmps assign body w7 _) := hR
              clear hR
              refine anyS_one (i := 9) (by kernel_rfl) (wpOpIn_step rfl (fun K hK => ?_))
              go_simp
              refine RoundIn.mono HR.out ?_
              rintro e w8 ⟨hc8, hh8⟩
              have HC8 : Hid (Ck X (fun b => w1.heap.size ≤ b) w4 w8) := (HCd.out.trans (Ck.nx HX7.out)).trans (hc8.mono (fun _ x => x) (fun b q => by have := HXW.out.size; omega))
              clear hc8
              rcases hh8 with ⟨rfl, hj8⟩ | ⟨rfl, hj8⟩
              · have HJ8 : Hid (J (chTo (E1 N) (firstsR N (E1 N) r) (lastsR N (E1 N) r) (midS N r) k c (d + 1)).length w8) := by unfold Hid; rw [HSUC.out, List.length_append]; exact hj8
                clear hj8
                refine hK _ _ ⟨Or.inl (Nat.le_refl _), ?_⟩
                clear hK K hy
                refine anyS_one (i := 10) (by kernel_rfl) (wpOpIn_step rfl (fun K hK => ?_))
                go_simp
                refine hK _ _ ⟨Or.inl (by decide), ?_⟩
                clear hK K
                refine anyS_done (by kernel_rfl) ?_ _
                clear hw hcl HSS HSN
                gi_wp2
                go_roundw
                case rel => exact ⟨d + 1, by omega, by go_num, HJ8, HC8⟩
                case measure => simp [intOf]; omega
              · have HJ8 : Hid (Jx w8) := hj8
                clear hj8
                refine hK _ _ ⟨Or.inl (Nat.le_refl _), ?_⟩
                clear hK K hy
                refine anyS_one (i := 10) (by kernel_rfl) (wpOpIn_step rfl (fun K hK => ?_))
                go_simp
                refine hK _ _ ⟨Or.inl (by decide), ?_⟩
                clear hK K
                refine anyS_done (by kernel_rfl) ?_ _
                clear hw hcl HSS HSN
                gi_wp2
                exact ⟨(Ck.nx HX24.out).trans HC8.out, HJ8.out⟩
            · go_simp
              generalize hWa : (wr.alloc (.cells #[.int .i64 (nb : Int)] 2)).drew = wa
              have HXa : Hid (Nx wr wa) := by unfold Hid; rw [← hWa]; exact (box1 _ _).drew
              have HGa0 : Hid (BT wa wr.heap.size #[.int .i64 (nb : Int)] 2) := by unfold Hid; rw [← hWa]; exact BT.new wr _ _ _ rfl
              clear hWa
              refine hK _ _ ⟨Or.inr (HSN.out _ HXa.out), ?_⟩
              clear hK K
              refine anyS_one (i := 2) (by kernel_rfl) (wpOpIn_step rfl (fun K hK => ?_))
              go_simp
              generalize hWb : wa.alloc (.cells #[.int .i64 (na : Int)] 2) = wb
              have HXab : Hid (Nx wa wb) := by unfold Hid; rw [← hWb]; exact box1 _ _
              have HXb : Hid (Nx wr wb) := HXa.out.trans HXab.out
              have HGb0 : Hid (BT wb wa.heap.size #[.int .i64 (na : Int)] 2) := by unfold Hid; rw [← hWb]; exact BT.new wa _ _ _ rfl
              clear hWb
              refine hK _ _ ⟨Or.inr (HSN.out _ HXb.out), ?_⟩
              clear hK K
              refine anyS_one (i := 7) (by kernel_rfl) (wpOpIn_step rfl (fun K hK => ?_))
              go_simp
              generalize hWc : wb.alloc (.cells #[.slice (some ⟨wa.heap.size, 0, none⟩) 1 1, .slice ua un uc, .slice (some ⟨wr.heap.size, 0, none⟩) 1 1] 22) = wc
              have HXbc : Hid (Nx wb wc) := by unfold Hid; rw [← hWc]; exact box1 _ _
              have HXc : Hid (Nx wr wc) := HXb.out.trans HXbc.out
              have HGa := (HGa0.out.next HXab.out).next HXbc.out
              have HGb := HGb0.out.next HXbc.out
              have HWD : Hid (HWords 0 wc (.slice (some ⟨wb.heap.size, 0, none⟩) 3 3) [[(na : Int)], nums (sxat (midS N r) k).l, [(nb : Int)]]) := words3 (t := 22) (by rw [← hWc]; exact BT.new wb _ _ _ rfl) (one_ints HGb) ⟨_, _, _, rfl, Nat.le_refl _⟩ (HUr.out.next HXc.out) HCU.out (one_ints HGa) ⟨_, _, _, rfl, Nat.le_refl _⟩
              clear hWc HGa HGb
              refine hK _ _ ⟨Or.inr (HSN.out _ HXc.out), ?_⟩
              clear hK K
              refine anyS_one (i := 8) (by kernel_rfl) (wpOpIn_step rfl (fun K hK => ?_))
              go_simp
              refine ⟨trivial, (callsIn_wide.2 (concat_any 0 _ _ wc HWD.out (by simp) (by have := HMS.out; simp [nums_len]; omega) (by simp))).mono ?_⟩
              rintro e w7 ⟨⟨u7, rfl, hu7⟩, hx7⟩
              have HXc7 : Hid (Nx wc w7) := hx7
              have HU7 : Hid (OwnI wc.heap.size w7 u7 (nums (ch1 (sxat (midS N r) k) na nb))) := by unfold Hid; simpa [ch1, nums] using hu7
              obtain ⟨a7, c7, rfl⟩ := row_slice HU7.out
              clear hu7 hx7
              generalize hn7 : (nums (ch1 (sxat (midS N r) k) na nb)).length = n7 at *
              clear hn7
              have HX7 : Hid (Nx wr w7) := HXc.out.trans HXc7.out
              refine hK _ _ ⟨Or.inr (HSN.out _ HX7.out), ?_⟩
              clear hK K
              have HCW7 : Hid (Ck X noX W w7) := HCW.out.trans (Ck.nx HX7.out)
              obtain ⟨fn, tmps, assign, body, hy, hR⟩ := HY.out (chTo (E1 N) (firstsR N (E1 N) r) (lastsR N (E1 N) r) (midS N r) k c d).length #[.slice a7 n7 c7] w7 HNXT.out.1 (HJ.out _ _ _ HJd.out (Ck.nx HX7.out)) HCW7.out ⟨_, rfl, by unfold chP; rw [HNXT.out.2]; exact OwnI.base HU7.out (Nat.le_trans HCW.out.size HXc.out.size), by unfold chP; rw [HNXT.out.2]; simp [ch1]⟩
              have HR : Hid (RoundIn Fence.wide m Tryz.prog l fn tmps assign body w7 _) := hR
              clear hR
              refine anyS_one (i := 9) (by kernel_rfl) (wpOpIn_step rfl (fun K hK => ?_))
              go_simp
              refine RoundIn.mono HR.out ?_
              rintro e w8 ⟨hc8, hh8⟩
              have HC8 : Hid (Ck X (fun b => w1.heap.size ≤ b) w4 w8) := (HCd.out.trans (Ck.nx HX7.out)).trans (hc8.mono (fun _ x => x) (fun b q => by have := HXW.out.size; omega))
              clear hc8
              rcases hh8 with ⟨rfl, hj8⟩ | ⟨rfl, hj8⟩
              · have HJ8 : Hid (J (chTo (E1 N) (firstsR N (E1 N) r) (lastsR N (E1 N) r) (midS N r) k c (d + 1)).length w8) := by unfold Hid; rw [HSUC.out, List.length_append]; exact hj8
                clear hj8
                refine hK _ _ ⟨Or.inl (Nat.le_refl _), ?_⟩
                clear hK K hy
                refine anyS_one (i := 10) (by kernel_rfl) (wpOpIn_step rfl (fun K hK => ?_))
                go_simp
                refine hK _ _ ⟨Or.inl (by decide), ?_⟩
                clear hK K
                refine anyS_done (by kernel_rfl) ?_ _
                clear hw hcl HSS HSN
                gi_wp2
                go_roundw
                case rel => exact ⟨d + 1, by omega, by go_num, HJ8, HC8⟩
                case measure => simp [intOf]; omega
              · have HJ8 : Hid (Jx w8) := hj8
                clear hj8
                refine hK _ _ ⟨Or.inl (Nat.le_refl _), ?_⟩
                clear hK K hy
                refine anyS_one (i := 10) (by kernel_rfl) (wpOpIn_step rfl (fun K hK => ?_))
                go_simp
                refine hK _ _ ⟨Or.inl (by decide), ?_⟩
                clear hK K
                refine anyS_done (by kernel_rfl) ?_ _
                clear hw hcl HSS HSN
                gi_wp2
                exact ⟨(Ck.nx HX24.out).trans HC8.out, HJ8.out⟩
          · have ed : d = ns := by omega
            subst ed
            have HJn : Hid (J (chTo (E1 N) (firstsR N (E1 N) r) (lastsR N (E1 N) r) (midS N r) k (c + 1) 0).length wr) := by unfold Hid; rw [← chTo_row (E1 N) (firstsR N (E1 N) r) (lastsR N (E1 N) r) (by rw [HNE.out]; exact hlt), HNS.out]; exact HJd.out
            gi_wp2
            go_roundw
            case rel => exact ⟨c + 1, by omega, by go_num, HJn, HCd⟩
            case measure => simp [intOf]; omega
      · have ec : c = ne := by omega
        subst ec
        gi_wp2
        refine ⟨(Ck.nx HX24.out).trans HCc.out, ?_, ?_⟩
        · show J (chTo (E1 N) (firstsR N (E1 N) r) (lastsR N (E1 N) r) (midS N r) (k + 1) 0 0).length wr
          rw [← chTo_full (E1 N) (firstsR N (E1 N) r) (lastsR N (E1 N) r) hk, HNE.out]
          exact HJc.out
        · exact HBY4.out.ck HCc.out (fun x => by have := (HX.out _ x).2; omega)
end Go.Proofs.YtcdjmpbdaiafgaaGreatDoor
