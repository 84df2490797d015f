import Derived.Test.YtcdjmpbdaiafgaaGreatDoorLI
namespace Go.Proofs.YtcdjmpbdaiafgaaGreatDoor
open Go.RowKit Go.Sort Go.Maps Go.Shelf
set_option linter.unusedVariables false
set_option maxRecDepth 100000
attribute [local go_sem] Oper.semAt_some

theorem cell_ck {K : Nat → Prop} {A B : World} (k : Ck noX K A B) {b i : Nat} {v : Value} (h : A.cell? ⟨b, i, none⟩ = some v) : B.cell? ⟨b, i, none⟩ = some v := by
  have h' := h
  unfold World.cell? at h
  cases e : A.heap[b]? with
  | none => simp [e] at h
  | some o =>
    cases o with
    | cells c t fz =>
      rw [World.cell?_of_block ((k.block b _ e id (Or.inr rfl)).trans e.symm)]
      exact h'
    | _ => simp [e] at h
theorem HInts.ck {K : Nat → Prop} {A B : World} (k : Ck noX K A B) {v : Value} {zs : List Int} (h : HInts 0 A v zs) : HInts 0 B v zs := by
  obtain ⟨a, cap, e, hm, hk⟩ := h
  refine ⟨a, cap, e, hm, fun hp => ?_⟩
  obtain ⟨b, off, e, h0, hb, hc⟩ := hk hp
  exact ⟨b, off, e, h0, Nat.lt_of_lt_of_le hb k.size, fun i hi => cell_ck k (hc i hi)⟩
theorem cell_ckX {X K : Nat → Prop} {A B : World} (k : Ck X K A B) {b i : Nat} {v : Value} (hx : ¬ X b) (h : A.cell? ⟨b, i, none⟩ = some v) : B.cell? ⟨b, i, none⟩ = some v := by
  have h' := h
  unfold World.cell? at h
  cases e : A.heap[b]? with
  | none => simp [e] at h
  | some o =>
    cases o with
    | cells c t fz =>
      rw [World.cell?_of_block ((k.block b _ e hx (Or.inr rfl)).trans e.symm)]
      exact h'
    | _ => simp [e] at h
theorem HInts.ckX {X K : Nat → Prop} {A B : World} (k : Ck X K A B) {v : Value} {zs : List Int} (h : HInts 0 A v zs) (hx : ∀ g, v.ownBlock = some g → ¬ X g) : HInts 0 B v zs := by
  obtain ⟨a, cap, e, hm, hk⟩ := h
  refine ⟨a, cap, e, hm, fun hp => ?_⟩
  obtain ⟨b, off, rfl, h0, hb, hc⟩ := hk hp
  exact ⟨b, off, rfl, h0, Nat.lt_of_lt_of_le hb k.size, fun i hi => cell_ckX k (hx b (by rw [e]; rfl)) (hc i hi)⟩
theorem anyS_act {F : Fence} {n : Nat} {P : Program} {ops : Array Oper} {Q : Exit → Act → World → Prop} {md : Region.Mode} {S : World → Prop} {c fuel : Nat} {listed : Array Bool} {a a' : Act} {w : World} (e : a = a') (h : wpAnyS F n P md ops Q S c fuel listed a' w) : wpAnyS F n P md ops Q S c fuel listed a w := e ▸ h
/-- a guarded operation that is not wanted -/
theorem anyS_skip {F : Fence} {n : Nat} {P : Program} {ops : Array Oper} {Q : Exit → Act → World → Prop} {md : Region.Mode} {S : World → Prop} {c i fuel : Nat} {listed : Array Bool} {a : Act} {w : World} {o : Oper} (hr : Region.ready md ops listed = [i]) (hi : ops[i]? = some o) (hw : Region.wanted o (yielded ops a.tmps) = false) (ha : ∀ f, o.about P w a.eval = some f → F.fn f) (hS : c ≤ i ∨ S w) (hcl : Cl md ops listed) (h : Cl md ops (listed.setIfInBounds i true) → wpAnyS F n P md ops Q S c fuel (listed.setIfInBounds i true) (a.put o.dst undef) w) : wpAnyS F n P md ops Q S c (fuel + 1) listed a w :=
  anyS_one hr (by
    unfold wpOpIn
    simp only [hi, hw]
    exact ⟨ha, hS, h (hcl.step (by rw [hr]; simp))⟩)
/-- a guarded operation that is wanted -/
theorem anyS_do {F : Fence} {n : Nat} {P : Program} {ops : Array Oper} {Q : Exit → Act → World → Prop} {md : Region.Mode} {S : World → Prop} {c i fuel : Nat} {listed : Array Bool} {a : Act} {w : World} {o : Oper} (hr : Region.ready md ops listed = [i]) (hi : ops[i]? = some o) (hw : Region.wanted o (yielded ops a.tmps) = true) (h : ∀ K : Act → World → Prop, (∀ a' w', (c ≤ i ∨ S w') ∧ wpAnyS F n P md ops Q S c fuel (listed.setIfInBounds i true) a' w' → K a' w') → Oper.wpIn F n P o a w K Q) : wpAnyS F n P md ops Q S c (fuel + 1) listed a w :=
  anyS_one hr (by
    unfold wpOpIn
    simp only [hi, hw]
    exact h _ (fun _ _ h => h))
def notDefer : Op → Bool
  | .defer _ => false
  | _ => true
theorem noDefer_round {l : Nat} {ops : Array Oper} (h : ops.toList.all (fun o => notDefer o.op) = true) : NoDefer (Fence.wide.inRound l) ops := fun j o ρ hj => Oper.semAt_some l ρ o (fun c e => by
  have h1 := List.all_eq_true.1 h o (by have := Array.mem_of_getElem? hj; simpa using this)
  rw [e] at h1
  cases h1)
theorem words2 {w : World} {g t : Nat} {v1 v2 : Value} {z1 z2 : List Int} (h : BT w g #[v1, v2] t) (h1 : HInts 0 w v1 z1) (c1 : CapOk v1) (h2 : HInts 0 w v2 z2) (c2 : CapOk v2) : HWords 0 w (.slice (some ⟨g, 0, none⟩) 2 2) [z1, z2] := by
  refine ⟨_, _, rfl, by simp [maxLen], fun _ => ⟨g, 0, rfl, Nat.zero_le _, h.lt, fun i hi => ?_⟩⟩
  match i, hi with
  | 0, _ => exact ⟨v1, h.blk.cell (i := 0) rfl, h1, c1⟩
  | 1, _ => exact ⟨v2, h.blk.cell (i := 1) rfl, h2, c2⟩
theorem words3 {w : World} {g t : Nat} {v1 v2 v3 : Value} {z1 z2 z3 : List Int} (h : BT w g #[v1, v2, v3] t) (h1 : HInts 0 w v1 z1) (c1 : CapOk v1) (h2 : HInts 0 w v2 z2) (c2 : CapOk v2) (h3 : HInts 0 w v3 z3) (c3 : CapOk v3) : HWords 0 w (.slice (some ⟨g, 0, none⟩) 3 3) [z1, z2, z3] := by
  refine ⟨_, _, rfl, by simp [maxLen], fun _ => ⟨g, 0, rfl, Nat.zero_le _, h.lt, fun i hi => ?_⟩⟩
  match i, hi with
  | 0, _ => exact ⟨v1, h.blk.cell (i := 0) rfl, h1, c1⟩
  | 1, _ => exact ⟨v2, h.blk.cell (i := 1) rfl, h2, c2⟩
  | 2, _ => exact ⟨v3, h.blk.cell (i := 2) rfl, h3, c3⟩
/-- what extend's function reads -/
def InvE (z bf bn gf : Nat) (lb : Array Value) (v : Value) (ys : List Sx) (InvB : World → Prop) (W : World) : Prop := W.cell? ⟨bf, 0, none⟩ = some (.func (.func gf) #[] lb) ∧ W.cell? ⟨bn, 0, none⟩ = some v ∧ HStx z W v ys ∧ InvB W

set_option maxHeartbeats 8000000 in
theorem extend1_in (z bf bn gf : Nat) (lb : Array Value) (v : Value) (xs ys : List Sx) (hLen : ∀ k j, k < xs.length → j < ys.length → 0 < (nums (sxat xs k).l ++ nums (sxat ys j).l).length ∧ (nums (sxat xs k).l ++ nums (sxat ys j).l).length ≤ 1000000) (InvB : World → Prop) (hG : Gives Tryz.prog gf lb (PyS z xs) z xs.length InvB) (eg : ∀ args w, (callFunc gf args).run Tryz.prog w = .ok (.enter gf args) w) (X : Nat → Prop) (l m : Nat) (J : Nat → World → Prop) (Jx : World → Prop) (W : World) (hX : ∀ b, X b → z ≤ b ∧ b < W.heap.size)
    (hInv : ∀ B, Ck X noX W B → InvE z bf bn gf lb v ys InvB B) (hJ : ∀ k A B, J k A → Ck noX (fun b => b < W.heap.size) A B → J k B) (hJx : ∀ A B, Jx A → Ck noX (fun b => b < W.heap.size) A B → Jx B)
    (hY : ∀ k args W1, k < (exts xs ys).length → J k W1 → Ck X noX W W1 → PyS z (exts xs ys) W.heap.size k args W1 → YieldAt Fence.wide m Tryz.prog l args W1 fun e W' => Ck X (fun b => W.heap.size ≤ b) W1 W' ∧ ((e = .returned (.bool true) ∧ J (k + 1) W') ∨ (e = .returned (.bool false) ∧ Jx W')))
    (h0 : J 0 W) :
    Calls Tryz.prog 128 #[.func (.yield l) #[] #[], .pointer (some ⟨bf, 0, none⟩), .pointer (some ⟨bn, 0, none⟩)] W fun e W' => (∃ v, e = .returned v) ∧ Ck X noX W W' ∧ (J (exts xs ys).length W' ∨ Jx W') := by
  have HG : Hid (Gives Tryz.prog gf lb (PyS z xs) z xs.length InvB) := hG
  have HEG : Hid (∀ args w, (callFunc gf args).run Tryz.prog w = .ok (.enter gf args) w) := eg
  have HIN : Hid (∀ B, Ck X noX W B → InvE z bf bn gf lb v ys InvB B) := hInv
  have HJ : Hid (∀ k A B, J k A → Ck noX (fun b => b < W.heap.size) A B → J k B) := hJ
  have HJX : Hid (∀ A B, Jx A → Ck noX (fun b => b < W.heap.size) A B → Jx B) := hJx
  have HY : Hid (∀ k args W1, k < (exts xs ys).length → J k W1 → Ck X noX W W1 → PyS z (exts xs ys) W.heap.size k args W1 → YieldAt Fence.wide m Tryz.prog l args W1 fun e W' => Ck X (fun b => W.heap.size ≤ b) W1 W' ∧ ((e = .returned (.bool true) ∧ J (k + 1) W') ∨ (e = .returned (.bool false) ∧ Jx W'))) := hY
  have HJ0 : Hid (J 0 W) := h0
  have HX : Hid (∀ b, X b → z ≤ b ∧ b < W.heap.size) := hX
  have x1 := cellq (box1 W (.cells #[.func (.yield l) #[] #[]] 185)) (hInv W (Ck.refl _ _ _)).1
  have HLEN : Hid (∀ k j, k < xs.length → j < ys.length → 0 < (nums (sxat xs k).l ++ nums (sxat ys j).l).length ∧ (nums (sxat xs k).l ++ nums (sxat ys j).l).length ≤ 1000000) := hLen
  clear hG eg hInv hJ hJx hY h0 hX hLen
  refine (callsIn_wide (n := m + 1)).1 (callsIn_of_wp_marks Tryz.func128 rfl trivial ?_ rfl)
  refine wpIn_wide.2 ?_
  simp only [Tryz.ntmps128, List.size_toArray, List.length_cons, List.length_nil, Nat.reduceAdd, Nat.reduceSub, Array.replicate_succ, Array.replicate_zero, List.push_toArray, List.append_toArray, List.nil_append, List.cons_append]
  go_wp2
  generalize hW0 : W.alloc (.cells #[.func (.yield l) #[] #[]] 185) = w0
  have HX0 : Hid (Nx W w0) := by unfold Hid; rw [← hW0]; exact box1 _ _
  have HS0 : Hid (w0.heap.size = W.heap.size + 1) := by unfold Hid; rw [← hW0]; simp
  have HB0 : Hid (BT w0 W.heap.size #[.func (.yield l) #[] #[]] 185) := by unfold Hid; rw [← hW0]; exact BT.new _ _ _ _ rfl
  clear hW0 x1
  refine (wpIn_wide (n := m + 1)).1 ?_
  refine range_gives HG.out rfl HEG.out X ?hX ?hps ?hPy ?hInv (fun k W' => J (extTo xs ys k 0).length W' ∧ BT W' W.heap.size #[.func (.yield l) #[] #[]] 185) Jx ?hI ?hIx ?h0 (fun args a' W' => ∃ Ba ta ha u, args = #[.agg #[.int .i64 ta, .int .i64 ha, u]] ∧ w0.heap.size ≤ Ba ∧ BT W' Ba #[.int .i64 ta, .int .i64 ha, u] 160 ∧ a' = ⟨#[.func (.yield l) #[] #[], .pointer (some ⟨bf, 0, none⟩), .pointer (some ⟨bn, 0, none⟩), .pointer (some ⟨W.heap.size, 0, none⟩), .pointer (some ⟨Ba, 0, none⟩), undef, undef, .func (.func gf) #[] lb, .agg #[.int .i64 ta, .int .i64 ha, u], undef, undef, undef, undef, undef, undef, undef, undef, undef, undef, undef, undef, undef, undef, undef, undef, undef, undef, undef, undef, undef, undef, undef, undef, undef, undef, undef, undef], []⟩) ?hAx ?assign ?body ?done ?stop
  case hX => intro b h; have := HX.out b h; have := HS0.out; exact ⟨by omega, by omega⟩
  case hps => rintro k args W ⟨u, rfl, _⟩; rfl
  case hPy => rintro k args A B ⟨u, h1, h2, h3⟩ hc; exact ⟨u, h1, h2.ck hc, h3⟩
  case hInv => exact fun B hc => (HIN.out B ((Ck.nx HX0.out).trans hc)).2.2.2
  case hI => exact fun k A B h hc => ⟨HJ.out _ A B h.1 (hc.mono (fun _ x => x) (fun b q => by have := HS0.out; omega)), h.2.ck hc id⟩
  case hIx => exact fun A B h hc => HJX.out A B h (hc.mono (fun _ x => x) (fun b q => by have := HS0.out; omega))
  case h0 => exact ⟨by rw [extTo_start]; exact HJ.out 0 _ _ HJ0.out (Ck.nx HX0.out), HB0.out⟩
  case hAx => rintro args a' A B ⟨Ba, ta, ha, u, h1, h2, h3, h4⟩ hc; exact ⟨Ba, ta, ha, u, h1, h2, h3.ck hc id, h4⟩
  case assign =>
    rintro l' k args W' K hk hWz ⟨u, rfl, hu, _⟩ hK
    obtain ⟨ua, uc, rfl, _⟩ := hu.slice
    clear hu
    have HWZ : Hid (w0.heap.size ≤ W'.heap.size) := hWz
    clear hWz
    gi_wp2
    exact hK _ _ (box1 _ _) ⟨W'.heap.size, _, _, _, rfl, HWZ.out, BT.new _ _ _ _ rfl, rfl⟩
  case done =>
    intro D W' hDw hI hc hD
    have HF : Hid (J (exts xs ys).length W') := by unfold Hid; rw [← extTo_all]; exact hI.1
    have HCW : Hid (Ck X noX W W') := (Ck.nx HX0.out).trans hc
    clear hI hc
    go_wp2
    refine leaves_mark D _ hD (fun W2 ho => ?_)
    refine ⟨_, results_none rfl _ _ _, ⟨_, rfl⟩, HCW.out.trans (ho.mono (fun _ x => x.elim) (fun _ x => x.elim)), Or.inl (HJ.out _ _ _ HF.out (ho.mono (fun _ x => x) (fun b q => by have := HS0.out; omega)))⟩
  case stop =>
    intro D W' hDw hI hc hD
    have HCW : Hid (Ck X noX W W') := (Ck.nx HX0.out).trans hc
    refine wpIn_wide.2 ?_
    go_wp2
    refine leaves_mark D _ hD (fun W2 ho => ?_)
    refine ⟨_, results_none rfl _ _ _, ⟨_, rfl⟩, HCW.out.trans (ho.mono (fun _ x => x.elim) (fun _ x => x.elim)), Or.inr (HJX.out _ _ hI (ho.mono (fun _ x => x) (fun b q => by have := HS0.out; omega)))⟩
  case body =>
    rintro l' k args a' w1 hk ⟨hJ1, hBY⟩ ⟨u, rfl, hu, hlu, hcu⟩ ⟨Ba, ta, ha, u', e', hBa, hbt, rfl⟩ hc
    have e2 : (sxat xs k).t = ta ∧ (sxat xs k).h = ha ∧ u = u' := by simpa using e'
    obtain ⟨rfl, rfl, rfl⟩ := e2
    clear e'
    obtain ⟨ua, uc, rfl, _⟩ := hu.slice
    have HU : Hid (HInts 0 w1 (.slice ua (nums (sxat xs k).l).length uc) (nums (sxat xs k).l)) := hu
    have HCU : Hid (CapOk (.slice ua (nums (sxat xs k).l).length uc)) := hcu
    have HLU : Hid (Lies z (w0.heap.size + 2) (.slice ua (nums (sxat xs k).l).length uc)) := hlu
    have HJ1 : Hid (J (extTo xs ys k 0).length w1) := hJ1
    have HBY : Hid (BT w1 W.heap.size #[.func (.yield l) #[] #[]] 185) := hBY
    have HBA : Hid (w0.heap.size ≤ Ba ∧ BT w1 Ba #[.int .i64 (sxat xs k).t, .int .i64 (sxat xs k).h, .slice ua (nums (sxat xs k).l).length uc] 160) := ⟨hBa, hbt⟩
    have HC1 : Hid (Ck X noX W w1) := (Ck.nx HX0.out).trans hc
    obtain ⟨_, x2, hys, _⟩ := HIN.out w1 HC1.out
    obtain ⟨sa, cap, rfl, hmx, hk0⟩ := hys
    unfold maxLen at hmx
    generalize hny : ys.length = ny at *
    have HNY : Hid (ys.length = ny) := hny
    clear hu hlu hcu hJ1 hBa hbt hc hny hk0 hBY
    gi_wp2
    clear x2
    gi_loopw [6, 11] (fun p6 i wr => ∃ j : Nat, j ≤ ny ∧ i = .int .i64 j ∧ Hid (J (extTo xs ys k j).length wr) ∧ Hid (Ck X (fun b => w0.heap.size ≤ b) w1 wr)) (fun _ i _ => ny - (intOf i).toNat)
    case atStart => exact ⟨0, Nat.zero_le _, rfl, HJ1, Ck.refl _ _ _⟩
    case round =>
      clear HJ1
      obtain ⟨j, hj, rfl, HJj, HCj⟩ := hrel
      by_cases hlt : j < ny
      · have HCW : Hid (Ck X noX W wr) := HC1.out.trans (HCj.out.mono (fun _ x => x) (fun _ x => x.elim))
        obtain ⟨_, _, hys, _⟩ := HIN.out wr HCW.out
        obtain ⟨sa', cap', hse, _, hk0⟩ := hys
        obtain ⟨b, off, rfl, _, hb, hcs⟩ := hk0 (by rw [HNY.out]; omega)
        simp only [Value.slice.injEq] at hse
        obtain ⟨rfl, hzz, rfl⟩ := hse
        clear hzz
        obtain ⟨u2, z0, z1, z2, hu2, hl2, hc2⟩ := hcs j (by rw [HNY.out]; exact hlt)
        obtain ⟨u2a, u2c, rfl, _⟩ := hu2.slice
        have HU2 : Hid (HInts 0 wr (.slice u2a (nums (sxat ys j).l).length u2c) (nums (sxat ys j).l)) := hu2
        have HC2 : Hid (CapOk (.slice u2a (nums (sxat ys j).l).length u2c)) := hc2
        have nXW : ∀ b, W.heap.size ≤ b → ¬ X b := fun b q x => by have := (HX.out _ x).2; omega
        have HUr : Hid (HInts 0 wr (.slice ua (nums (sxat xs k).l).length uc) (nums (sxat xs k).l)) := HU.out.ckX HCj.out (fun g hg x => by have h1 := HX.out _ x; have h2 := HS0.out; rcases HLU.out g hg with q | q <;> omega)
        have HBAr : Hid (BT wr Ba #[.int .i64 (sxat xs k).t, .int .i64 (sxat xs k).h, .slice ua (nums (sxat xs k).l).length uc] 160) := HBA.out.2.ck HCj.out (nXW _ (by have := HBA.out.1; have := HS0.out; omega))
        have HBYr : Hid (BT wr W.heap.size #[.func (.yield l) #[] #[]] 185) := HBY.out.ck HCj.out (nXW _ (Nat.le_refl _))
        have hlt' : (j : Int) < ny := by omega
        clear hcs hk0 hu2 hl2 hc2
        gi_wp2
        generalize hW5 : wr.alloc (.cells #[.int .i64 (sxat ys j).t, .int .i64 (sxat ys j).h, .slice u2a (nums (sxat ys j).l).length u2c] 160) = w5
        have HX5 : Hid (Nx wr w5) := by unfold Hid; rw [← hW5]; exact box1 _ _
        have HB5 : Hid (BT w5 wr.heap.size #[.int .i64 (sxat ys j).t, .int .i64 (sxat ys j).h, .slice u2a (nums (sxat ys j).l).length u2c] 160) := by unfold Hid; rw [← hW5]; exact BT.new _ _ _ _ rfl
        have a5 := (HBAr.out.next HX5.out)
        have HSS : Hid ((fun q => q.cell? ⟨Ba, 0, none⟩ = some (.int .i64 (sxat xs k).t) ∧ q.cell? ⟨Ba, 1, none⟩ = some (.int .i64 (sxat xs k).h) ∧ q.cell? ⟨Ba, 2, none⟩ = some (.slice ua (nums (sxat xs k).l).length uc) ∧ q.cell? ⟨wr.heap.size, 0, none⟩ = some (.int .i64 (sxat ys j).t) ∧ q.cell? ⟨wr.heap.size, 1, none⟩ = some (.int .i64 (sxat ys j).h) ∧ q.cell? ⟨wr.heap.size, 2, none⟩ = some (.slice u2a (nums (sxat ys j).l).length u2c) ∧ q.cell? ⟨W.heap.size, 0, none⟩ = some (.func (.yield l) #[] #[])) w5.drew) := ⟨a5.blk.cell (i := 0) rfl, a5.blk.cell (i := 1) rfl, a5.blk.cell (i := 2) rfl, HB5.out.blk.cell (i := 0) rfl, HB5.out.blk.cell (i := 1) rfl, HB5.out.blk.cell (i := 2) rfl, (HBYr.out.next HX5.out).blk.cell (i := 0) rfl⟩
        have hmx2 : Tryz.prog.follows .mixedOrders = true := by kernel_rfl
        have HXD : Hid (Nx wr w5.drew) := HX5.out.trans (show Nx w5 w5.drew from (Below.refl _ _).drew)
        clear hW5 a5 z0 z1 z2
        by_cases heq : (sxat xs k).h = (sxat ys j).t
        · have hbq : ((sxat xs k).h == (sxat ys j).t) = true := by simp [heq]
          have HEQ : Hid ((sxat xs k).h = (sxat ys j).t) := heq
          clear heq
          refine wpIn_region_S (c := 18) (S := fun q => q.cell? ⟨Ba, 0, none⟩ = some (.int .i64 (sxat xs k).t) ∧ q.cell? ⟨Ba, 1, none⟩ = some (.int .i64 (sxat xs k).h) ∧ q.cell? ⟨Ba, 2, none⟩ = some (.slice ua (nums (sxat xs k).l).length uc) ∧ q.cell? ⟨wr.heap.size, 0, none⟩ = some (.int .i64 (sxat ys j).t) ∧ q.cell? ⟨wr.heap.size, 1, none⟩ = some (.int .i64 (sxat ys j).h) ∧ q.cell? ⟨wr.heap.size, 2, none⟩ = some (.slice u2a (nums (sxat ys j).l).length u2c) ∧ q.cell? ⟨W.heap.size, 0, none⟩ = some (.func (.yield l) #[] #[])) hmx2 (by kernel_rfl) (fun hw hcl => ?_)
          refine anyS_take (i := 0) (v := .pointer (some ⟨Ba, 1, none⟩)) hw (by decide) hcl (noDefer_round (by kernel_rfl)) rfl (by kernel_rfl) (by kernel_rfl) (by kernel_rfl) (fun _ _ _ h => h) ⟨Or.inl ⟨by kernel_rfl, ?y0⟩, fun _ => rfl⟩ HSS.out (fun hcl => ?_)
          case y0 =>
            rintro q ⟨c1, c2, c3, c4, c5, c6, c7⟩
            go_simp
          refine anyS_take (i := 1) (v := .int .i64 (sxat xs k).h) hw (by decide) hcl (noDefer_round (by kernel_rfl)) rfl (by kernel_rfl) (by kernel_rfl) (by kernel_rfl) (fun _ _ _ h => h) ⟨Or.inl ⟨by kernel_rfl, ?y1⟩, fun _ => rfl⟩ HSS.out (fun hcl => ?_)
          case y1 =>
            rintro q ⟨c1, c2, c3, c4, c5, c6, c7⟩
            go_simp
          refine anyS_take (i := 2) (v := .pointer (some ⟨wr.heap.size, 0, none⟩)) hw (by decide) hcl (noDefer_round (by kernel_rfl)) rfl (by kernel_rfl) (by kernel_rfl) (by kernel_rfl) (fun _ _ _ h => h) ⟨Or.inl ⟨by kernel_rfl, ?y2⟩, fun _ => rfl⟩ HSS.out (fun hcl => ?_)
          case y2 =>
            rintro q ⟨c1, c2, c3, c4, c5, c6, c7⟩
            go_simp
          refine anyS_take (i := 3) (v := .int .i64 (sxat ys j).t) hw (by decide) hcl (noDefer_round (by kernel_rfl)) rfl (by kernel_rfl) (by kernel_rfl) (by kernel_rfl) (fun _ _ _ h => h) ⟨Or.inl ⟨by kernel_rfl, ?y3⟩, fun _ => rfl⟩ HSS.out (fun hcl => ?_)
          case y3 =>
            rintro q ⟨c1, c2, c3, c4, c5, c6, c7⟩
            go_simp
          refine anyS_take (i := 4) (v := .bool true) hw (by decide) hcl (noDefer_round (by kernel_rfl)) rfl (by kernel_rfl) (by kernel_rfl) (by kernel_rfl) (fun _ _ _ h => h) ⟨Or.inl ⟨by kernel_rfl, ?y4⟩, fun _ => rfl⟩ HSS.out (fun hcl => ?_)
          case y4 =>
            rintro q ⟨c1, c2, c3, c4, c5, c6, c7⟩
            go_simp
          refine anyS_take (i := 5) (v := .bool true) hw (by decide) hcl (noDefer_round (by kernel_rfl)) rfl (by kernel_rfl) (by kernel_rfl) (by kernel_rfl) (fun _ _ _ h => h) ⟨Or.inl ⟨by kernel_rfl, ?y5⟩, fun _ => rfl⟩ HSS.out (fun hcl => ?_)
          case y5 =>
            rintro q ⟨c1, c2, c3, c4, c5, c6, c7⟩
            go_simp
          refine anyS_take (i := 6) (v := .func (.yield l) #[] #[]) hw (by decide) hcl (noDefer_round (by kernel_rfl)) rfl (by kernel_rfl) (by kernel_rfl) (by kernel_rfl) (fun _ _ _ h => h) ⟨Or.inl ⟨by kernel_rfl, ?y6⟩, fun _ => rfl⟩ HSS.out (fun hcl => ?_)
          case y6 =>
            rintro q ⟨c1, c2, c3, c4, c5, c6, c7⟩
            go_simp
          refine anyS_take (i := 7) (v := .pointer (some ⟨Ba, 0, none⟩)) hw (by decide) hcl (noDefer_round (by kernel_rfl)) rfl (by kernel_rfl) (by kernel_rfl) (by kernel_rfl) (fun _ _ _ h => h) ⟨Or.inl ⟨by kernel_rfl, ?y7⟩, fun _ => rfl⟩ HSS.out (fun hcl => ?_)
          case y7 =>
            rintro q ⟨c1, c2, c3, c4, c5, c6, c7⟩
            go_simp
          refine anyS_take (i := 8) (v := .int .i64 (sxat xs k).t) hw (by decide) hcl (noDefer_round (by kernel_rfl)) rfl (by kernel_rfl) (by kernel_rfl) (by kernel_rfl) (fun _ _ _ h => h) ⟨Or.inl ⟨by kernel_rfl, ?y8⟩, fun _ => rfl⟩ HSS.out (fun hcl => ?_)
          case y8 =>
            rintro q ⟨c1, c2, c3, c4, c5, c6, c7⟩
            go_simp
          refine anyS_take (i := 9) (v := .pointer (some ⟨wr.heap.size, 1, none⟩)) hw (by decide) hcl (noDefer_round (by kernel_rfl)) rfl (by kernel_rfl) (by kernel_rfl) (by kernel_rfl) (fun _ _ _ h => h) ⟨Or.inl ⟨by kernel_rfl, ?y9⟩, fun _ => rfl⟩ HSS.out (fun hcl => ?_)
          case y9 =>
            rintro q ⟨c1, c2, c3, c4, c5, c6, c7⟩
            go_simp
          refine anyS_take (i := 10) (v := .int .i64 (sxat ys j).h) hw (by decide) hcl (noDefer_round (by kernel_rfl)) rfl (by kernel_rfl) (by kernel_rfl) (by kernel_rfl) (fun _ _ _ h => h) ⟨Or.inl ⟨by kernel_rfl, ?y10⟩, fun _ => rfl⟩ HSS.out (fun hcl => ?_)
          case y10 =>
            rintro q ⟨c1, c2, c3, c4, c5, c6, c7⟩
            go_simp
          refine anyS_take (i := 11) (v := .pointer (some ⟨Ba, 2, none⟩)) hw (by decide) hcl (noDefer_round (by kernel_rfl)) rfl (by kernel_rfl) (by kernel_rfl) (by kernel_rfl) (fun _ _ _ h => h) ⟨Or.inl ⟨by kernel_rfl, ?y11⟩, fun _ => rfl⟩ HSS.out (fun hcl => ?_)
          case y11 =>
            rintro q ⟨c1, c2, c3, c4, c5, c6, c7⟩
            go_simp
          refine anyS_take (i := 12) (v := .slice ua (nums (sxat xs k).l).length uc) hw (by decide) hcl (noDefer_round (by kernel_rfl)) rfl (by kernel_rfl) (by kernel_rfl) (by kernel_rfl) (fun _ _ _ h => h) ⟨Or.inl ⟨by kernel_rfl, ?y12⟩, fun _ => rfl⟩ HSS.out (fun hcl => ?_)
          case y12 =>
            rintro q ⟨c1, c2, c3, c4, c5, c6, c7⟩
            go_simp
          refine anyS_take (i := 13) (v := .pointer (some ⟨wr.heap.size, 2, none⟩)) hw (by decide) hcl (noDefer_round (by kernel_rfl)) rfl (by kernel_rfl) (by kernel_rfl) (by kernel_rfl) (fun _ _ _ h => h) ⟨Or.inl ⟨by kernel_rfl, ?y13⟩, fun _ => rfl⟩ HSS.out (fun hcl => ?_)
          case y13 =>
            rintro q ⟨c1, c2, c3, c4, c5, c6, c7⟩
            go_simp
          refine anyS_take (i := 14) (v := .slice u2a (nums (sxat ys j).l).length u2c) hw (by decide) hcl (noDefer_round (by kernel_rfl)) rfl (by kernel_rfl) (by kernel_rfl) (by kernel_rfl) (fun _ _ _ h => h) ⟨Or.inl ⟨by kernel_rfl, ?y14⟩, fun _ => rfl⟩ HSS.out (fun hcl => ?_)
          case y14 =>
            rintro q ⟨c1, c2, c3, c4, c5, c6, c7⟩
            go_simp
          refine anyS_act (a' := ⟨#[.func (.yield l) #[] #[], .pointer (some ⟨bf, 0, none⟩), .pointer (some ⟨bn, 0, none⟩), .pointer (some ⟨W.heap.size, 0, none⟩), .pointer (some ⟨Ba, 0, none⟩), undef, .pointer (some ⟨wr.heap.size, 0, none⟩), .func (.func gf) #[] lb, .agg #[.int .i64 (sxat xs k).t, .int .i64 (sxat xs k).h, .slice ua (nums (sxat xs k).l).length uc], .slice (some ⟨b, off, none⟩) ny cap, .int .i64 ny, .int .i64 j, .bool true, .pointer (some ⟨b, off + j * 3, none⟩), .agg #[.int .i64 (sxat ys j).t, .int .i64 (sxat ys j).h, .slice u2a (nums (sxat ys j).l).length u2c], .pointer (some ⟨Ba, 1, none⟩), .int .i64 (sxat xs k).h, .pointer (some ⟨wr.heap.size, 0, none⟩), .int .i64 (sxat ys j).t, .bool true, .bool true, .func (.yield l) #[] #[], .pointer (some ⟨Ba, 0, none⟩), .int .i64 (sxat xs k).t, .pointer (some ⟨wr.heap.size, 1, none⟩), .int .i64 (sxat ys j).h, .pointer (some ⟨Ba, 2, none⟩), .slice ua (nums (sxat xs k).l).length uc, .pointer (some ⟨wr.heap.size, 2, none⟩), .slice u2a (nums (sxat ys j).l).length u2c, u30, u31, u32, u33, u34, u35, u36], []⟩) (by kernel_rfl) ?_
          refine anyS_do (i := 15) (by kernel_rfl) rfl (by kernel_rfl) (fun K hK => ?_)
          go_simp
          generalize hW6 : (w5.alloc (.cells #[.slice ua (nums (sxat xs k).l).length uc, .slice u2a (nums (sxat ys j).l).length u2c] 22)).drew = w6 at *
          have HX56 : Hid (Nx w5 w6) := by unfold Hid; rw [← hW6]; exact (box1 _ _).drew
          have HX6 : Hid (Nx wr w6) := HX5.out.trans HX56.out
          have HZ6 : Hid (wr.heap.size < w6.heap.size) := Nat.lt_of_lt_of_le HB5.out.lt HX56.out.size
          have HWD : Hid (HWords 0 w6 (.slice (some ⟨w5.heap.size, 0, none⟩) 2 2) [nums (sxat xs k).l, nums (sxat ys j).l]) := words2 (t := 22) (by rw [← hW6]; exact BT.new w5 _ _ _ rfl) (HUr.out.next HX6.out) HCU.out (HU2.out.next HX6.out) HC2.out
          have HSN : Hid (∀ q, Nx w5 q → (fun q => q.cell? ⟨Ba, 0, none⟩ = some (.int .i64 (sxat xs k).t) ∧ q.cell? ⟨Ba, 1, none⟩ = some (.int .i64 (sxat xs k).h) ∧ q.cell? ⟨Ba, 2, none⟩ = some (.slice ua (nums (sxat xs k).l).length uc) ∧ q.cell? ⟨wr.heap.size, 0, none⟩ = some (.int .i64 (sxat ys j).t) ∧ q.cell? ⟨wr.heap.size, 1, none⟩ = some (.int .i64 (sxat ys j).h) ∧ q.cell? ⟨wr.heap.size, 2, none⟩ = some (.slice u2a (nums (sxat ys j).l).length u2c) ∧ q.cell? ⟨W.heap.size, 0, none⟩ = some (.func (.yield l) #[] #[])) q) := fun q hq => by
            obtain ⟨c1, c2, c3, c4, c5, c6, c7⟩ := HSS.out
            exact ⟨cellq hq c1, cellq hq c2, cellq hq c3, cellq hq c4, cellq hq c5, cellq hq c6, cellq hq c7⟩
          refine hK _ _ ⟨Or.inr (HSN.out _ HX56.out), ?_⟩
          clear hK K hW6
          refine anyS_do (i := 16) (by kernel_rfl) rfl (by kernel_rfl) (fun K hK => ?_)
          go_simp
          obtain ⟨l1, l2⟩ := HLEN.out k j hk hlt
          refine ⟨trivial, (callsIn_wide.2 (concat_any 0 _ _ w6 HWD.out (by simpa using l1) (by simpa using l2) (by simp))).mono ?_⟩
          rintro e w7 ⟨⟨u7, rfl, hu7⟩, hx7⟩
          have HX67 : Hid (Nx w6 w7) := hx7
          have HU7 : Hid (OwnI w6.heap.size w7 u7 (nums ((sxat xs k).l ++ (sxat ys j).l))) := by
            unfold Hid
            rw [nums_app]
            simpa using hu7
          obtain ⟨a7, c7, rfl⟩ := row_slice HU7.out
          clear hu7 hx7 l1 l2
          generalize hn7 : (nums ((sxat xs k).l ++ (sxat ys j).l)).length = n7 at *
          have HN7 : Hid ((nums ((sxat xs k).l ++ (sxat ys j).l)).length = n7) := hn7
          clear hn7
          refine hK _ _ ⟨Or.inr (HSN.out _ (HX56.out.trans HX67.out)), ?_⟩
          clear hK K
          refine anyS_do (i := 17) (by kernel_rfl) rfl (by kernel_rfl) (fun K hK => ?_)
          go_simp
          refine hK _ _ ⟨Or.inr (HSN.out _ (HX56.out.trans HX67.out)), ?_⟩
          clear hK K
          have HNXT := extTo_next hk (show j < ys.length by rw [HNY.out]; exact hlt) HEQ.out
          have HX7 : Hid (Nx wr w7) := HX6.out.trans HX67.out
          have HCW7 : Hid (Ck X noX W w7) := HCW.out.trans (Ck.nx HX7.out)
          obtain ⟨fn, tmps, assign, body, hy, hR⟩ := HY.out (extTo xs ys k j).length #[.agg #[.int .i64 (sxat xs k).t, .int .i64 (sxat ys j).h, .slice a7 n7 c7]] w7 HNXT.1 (HJ.out _ _ _ HJj.out (Ck.nx HX7.out)) HCW7.out ⟨_, by rw [HNXT.2]; rfl, by rw [HNXT.2]; exact (OwnI.base HU7.out (Nat.zero_le _)).held, fun g hg => Or.inr (Nat.le_trans HCW.out.size (Nat.le_trans HX6.out.size (own_lt HU7.out g hg).1)), HU7.out.capOk⟩
          have HR : Hid (RoundIn Fence.wide m Tryz.prog l fn tmps assign body w7 _) := hR
          clear hR HNXT
          refine anyS_do (i := 18) (by kernel_rfl) rfl (by kernel_rfl) (fun K hK => ?_)
          go_simp
          refine RoundIn.mono HR.out ?_
          rintro e w8 ⟨hc8, hh8⟩
          have HC8 : Hid (Ck X (fun b => w0.heap.size ≤ b) w1 w8) := (HCj.out.trans (Ck.nx HX7.out)).trans (hc8.mono (fun _ x => x) (fun b q => by have := HS0.out; omega))
          clear hc8
          rcases hh8 with ⟨rfl, hj8⟩ | ⟨rfl, hj8⟩
          · have HJ8 : Hid (J (extTo xs ys k (j + 1)).length w8) := by unfold Hid; rw [extTo_yes (by rw [HNY.out]; exact hlt) HEQ.out, List.length_append]; exact hj8
            clear hj8
            refine hK _ _ ⟨Or.inl (Nat.le_refl _), ?_⟩
            clear hK K hy
            refine anyS_do (i := 19) (by kernel_rfl) rfl (by kernel_rfl) (fun K hK => ?_)
            go_simp
            refine hK _ _ ⟨Or.inl (by decide), ?_⟩
            clear hK K
            refine anyS_do (i := 20) (by kernel_rfl) rfl (by kernel_rfl) (fun K hK => ?_)
            go_simp
            refine hK _ _ ⟨Or.inl (by decide), ?_⟩
            clear hK K
            refine anyS_done (by kernel_rfl) ?_ _
            clear hw hcl HSS HSN
            gi_wp2
            go_roundw
            case rel => exact ⟨j + 1, by omega, by go_num, HJ8, HC8⟩
            case measure => simp [intOf]; omega
          · have HJ8 : Hid (Jx w8) := hj8
            clear hj8
            refine hK _ _ ⟨Or.inl (Nat.le_refl _), ?_⟩
            clear hK K hy
            refine anyS_do (i := 19) (by kernel_rfl) rfl (by kernel_rfl) (fun K hK => ?_)
            go_simp
            refine hK _ _ ⟨Or.inl (by decide), ?_⟩
            clear hK K
            refine anyS_do (i := 20) (by kernel_rfl) rfl (by kernel_rfl) (fun K hK => ?_)
            go_simp
            refine hK _ _ ⟨Or.inl (by decide), ?_⟩
            clear hK K
            refine anyS_done (by kernel_rfl) ?_ _
            clear hw hcl HSS HSN
            gi_wp2
            exact ⟨HC8.out, HJ8.out⟩
        · have hbq : ((sxat xs k).h == (sxat ys j).t) = false := by simp [heq]
          refine wpIn_region_S (c := 21) (S := fun q => q.cell? ⟨Ba, 0, none⟩ = some (.int .i64 (sxat xs k).t) ∧ q.cell? ⟨Ba, 1, none⟩ = some (.int .i64 (sxat xs k).h) ∧ q.cell? ⟨Ba, 2, none⟩ = some (.slice ua (nums (sxat xs k).l).length uc) ∧ q.cell? ⟨wr.heap.size, 0, none⟩ = some (.int .i64 (sxat ys j).t) ∧ q.cell? ⟨wr.heap.size, 1, none⟩ = some (.int .i64 (sxat ys j).h) ∧ q.cell? ⟨wr.heap.size, 2, none⟩ = some (.slice u2a (nums (sxat ys j).l).length u2c) ∧ q.cell? ⟨W.heap.size, 0, none⟩ = some (.func (.yield l) #[] #[])) hmx2 (by kernel_rfl) (fun hw hcl => ?_)
          refine anyS_take (i := 0) (v := .pointer (some ⟨Ba, 1, none⟩)) hw (by decide) hcl (noDefer_round (by kernel_rfl)) rfl (by kernel_rfl) (by kernel_rfl) (by kernel_rfl) (fun _ _ _ h => h) ⟨Or.inl ⟨by kernel_rfl, ?y0⟩, fun _ => rfl⟩ HSS.out (fun hcl => ?_)
          case y0 =>
            rintro q ⟨c1, c2, c3, c4, c5, c6, c7⟩
            go_simp
          refine anyS_take (i := 1) (v := .int .i64 (sxat xs k).h) hw (by decide) hcl (noDefer_round (by kernel_rfl)) rfl (by kernel_rfl) (by kernel_rfl) (by kernel_rfl) (fun _ _ _ h => h) ⟨Or.inl ⟨by kernel_rfl, ?y1⟩, fun _ => rfl⟩ HSS.out (fun hcl => ?_)
          case y1 =>
            rintro q ⟨c1, c2, c3, c4, c5, c6, c7⟩
            go_simp
          refine anyS_take (i := 2) (v := .pointer (some ⟨wr.heap.size, 0, none⟩)) hw (by decide) hcl (noDefer_round (by kernel_rfl)) rfl (by kernel_rfl) (by kernel_rfl) (by kernel_rfl) (fun _ _ _ h => h) ⟨Or.inl ⟨by kernel_rfl, ?y2⟩, fun _ => rfl⟩ HSS.out (fun hcl => ?_)
          case y2 =>
            rintro q ⟨c1, c2, c3, c4, c5, c6, c7⟩
            go_simp
          refine anyS_take (i := 3) (v := .int .i64 (sxat ys j).t) hw (by decide) hcl (noDefer_round (by kernel_rfl)) rfl (by kernel_rfl) (by kernel_rfl) (by kernel_rfl) (fun _ _ _ h => h) ⟨Or.inl ⟨by kernel_rfl, ?y3⟩, fun _ => rfl⟩ HSS.out (fun hcl => ?_)
          case y3 =>
            rintro q ⟨c1, c2, c3, c4, c5, c6, c7⟩
            go_simp
          refine anyS_take (i := 4) (v := .bool false) hw (by decide) hcl (noDefer_round (by kernel_rfl)) rfl (by kernel_rfl) (by kernel_rfl) (by kernel_rfl) (fun _ _ _ h => h) ⟨Or.inl ⟨by kernel_rfl, ?y4⟩, fun _ => rfl⟩ HSS.out (fun hcl => ?_)
          case y4 =>
            rintro q ⟨c1, c2, c3, c4, c5, c6, c7⟩
            go_simp
          refine anyS_take (i := 5) (v := .bool false) hw (by decide) hcl (noDefer_round (by kernel_rfl)) rfl (by kernel_rfl) (by kernel_rfl) (by kernel_rfl) (fun _ _ _ h => h) ⟨Or.inl ⟨by kernel_rfl, ?y5⟩, fun _ => rfl⟩ HSS.out (fun hcl => ?_)
          case y5 =>
            rintro q ⟨c1, c2, c3, c4, c5, c6, c7⟩
            go_simp
          refine anyS_take (i := 6) (v := undef) hw (by decide) hcl (noDefer_round (by kernel_rfl)) rfl (by kernel_rfl) (by kernel_rfl) (by kernel_rfl) (fun _ _ _ h => h) ⟨Or.inr ⟨by kernel_rfl, rfl⟩, fun _ => rfl⟩ HSS.out (fun hcl => ?_)
          refine anyS_take (i := 7) (v := undef) hw (by decide) hcl (noDefer_round (by kernel_rfl)) rfl (by kernel_rfl) (by kernel_rfl) (by kernel_rfl) (fun _ _ _ h => h) ⟨Or.inr ⟨by kernel_rfl, rfl⟩, fun _ => rfl⟩ HSS.out (fun hcl => ?_)
          refine anyS_take (i := 8) (v := undef) hw (by decide) hcl (noDefer_round (by kernel_rfl)) rfl (by kernel_rfl) (by kernel_rfl) (by kernel_rfl) (fun _ _ _ h => h) ⟨Or.inr ⟨by kernel_rfl, rfl⟩, fun _ => rfl⟩ HSS.out (fun hcl => ?_)
          refine anyS_take (i := 9) (v := undef) hw (by decide) hcl (noDefer_round (by kernel_rfl)) rfl (by kernel_rfl) (by kernel_rfl) (by kernel_rfl) (fun _ _ _ h => h) ⟨Or.inr ⟨by kernel_rfl, rfl⟩, fun _ => rfl⟩ HSS.out (fun hcl => ?_)
          refine anyS_take (i := 10) (v := undef) hw (by decide) hcl (noDefer_round (by kernel_rfl)) rfl (by kernel_rfl) (by kernel_rfl) (by kernel_rfl) (fun _ _ _ h => h) ⟨Or.inr ⟨by kernel_rfl, rfl⟩, fun _ => rfl⟩ HSS.out (fun hcl => ?_)
          refine anyS_take (i := 11) (v := undef) hw (by decide) hcl (noDefer_round (by kernel_rfl)) rfl (by kernel_rfl) (by kernel_rfl) (by kernel_rfl) (fun _ _ _ h => h) ⟨Or.inr ⟨by kernel_rfl, rfl⟩, fun _ => rfl⟩ HSS.out (fun hcl => ?_)
          refine anyS_take (i := 12) (v := undef) hw (by decide) hcl (noDefer_round (by kernel_rfl)) rfl (by kernel_rfl) (by kernel_rfl) (by kernel_rfl) (fun _ _ _ h => h) ⟨Or.inr ⟨by kernel_rfl, rfl⟩, fun _ => rfl⟩ HSS.out (fun hcl => ?_)
          refine anyS_take (i := 13) (v := undef) hw (by decide) hcl (noDefer_round (by kernel_rfl)) rfl (by kernel_rfl) (by kernel_rfl) (by kernel_rfl) (fun _ _ _ h => h) ⟨Or.inr ⟨by kernel_rfl, rfl⟩, fun _ => rfl⟩ HSS.out (fun hcl => ?_)
          refine anyS_take (i := 14) (v := undef) hw (by decide) hcl (noDefer_round (by kernel_rfl)) rfl (by kernel_rfl) (by kernel_rfl) (by kernel_rfl) (fun _ _ _ h => h) ⟨Or.inr ⟨by kernel_rfl, rfl⟩, fun _ => rfl⟩ HSS.out (fun hcl => ?_)
          refine anyS_take (i := 15) (v := undef) hw (by decide) hcl (noDefer_round (by kernel_rfl)) rfl (by kernel_rfl) (by kernel_rfl) (by kernel_rfl) (fun _ _ _ h => h) ⟨Or.inr ⟨by kernel_rfl, rfl⟩, fun _ => rfl⟩ HSS.out (fun hcl => ?_)
          refine anyS_skip (i := 16) (by kernel_rfl) rfl (by kernel_rfl) (fun _ _ => trivial) (Or.inr HSS.out) hcl (fun hcl => ?_)
          refine anyS_take (i := 17) (v := undef) hw (by decide) hcl (noDefer_round (by kernel_rfl)) rfl (by kernel_rfl) (by kernel_rfl) (by kernel_rfl) (fun _ _ _ h => h) ⟨Or.inr ⟨by kernel_rfl, rfl⟩, fun _ => rfl⟩ HSS.out (fun hcl => ?_)
          refine anyS_skip (i := 18) (by kernel_rfl) rfl (by kernel_rfl) (fun _ _ => trivial) (Or.inr HSS.out) hcl (fun hcl => ?_)
          refine anyS_take (i := 19) (v := undef) hw (by decide) hcl (noDefer_round (by kernel_rfl)) rfl (by kernel_rfl) (by kernel_rfl) (by kernel_rfl) (fun _ _ _ h => h) ⟨Or.inr ⟨by kernel_rfl, rfl⟩, fun _ => rfl⟩ HSS.out (fun hcl => ?_)
          refine anyS_take (i := 20) (v := .bool false) hw (by decide) hcl (noDefer_round (by kernel_rfl)) rfl (by kernel_rfl) (by kernel_rfl) (by kernel_rfl) (fun _ _ _ h => h) ⟨Or.inl ⟨by kernel_rfl, ?y20⟩, fun _ => rfl⟩ HSS.out (fun hcl => ?_)
          case y20 =>
            rintro q ⟨c1, c2, c3, c4, c5, c6, c7⟩
            kernel_rfl
          refine anyS_act (a' := ⟨#[.func (.yield l) #[] #[], .pointer (some ⟨bf, 0, none⟩), .pointer (some ⟨bn, 0, none⟩), .pointer (some ⟨W.heap.size, 0, none⟩), .pointer (some ⟨Ba, 0, none⟩), undef, .pointer (some ⟨wr.heap.size, 0, none⟩), .func (.func gf) #[] lb, .agg #[.int .i64 (sxat xs k).t, .int .i64 (sxat xs k).h, .slice ua (nums (sxat xs k).l).length uc], .slice (some ⟨b, off, none⟩) ny cap, .int .i64 ny, .int .i64 j, .bool true, .pointer (some ⟨b, off + j * 3, none⟩), .agg #[.int .i64 (sxat ys j).t, .int .i64 (sxat ys j).h, .slice u2a (nums (sxat ys j).l).length u2c], .pointer (some ⟨Ba, 1, none⟩), .int .i64 (sxat xs k).h, .pointer (some ⟨wr.heap.size, 0, none⟩), .int .i64 (sxat ys j).t, .bool false, .bool false, undef, undef, undef, undef, undef, undef, undef, undef, undef, undef, undef, undef, undef, undef, .bool false, u36], []⟩) (by kernel_rfl) ?_
          refine anyS_done (by kernel_rfl) ?_ _
          clear hw hcl HSS
          have HJn : Hid (J (extTo xs ys k (j + 1)).length w5.drew) := by unfold Hid; rw [extTo_no (by rw [HNY.out]; exact hlt) heq]; exact HJ.out _ _ _ HJj.out (Ck.nx HXD.out)
          have HCn : Hid (Ck X (fun b => w0.heap.size ≤ b) w1 w5.drew) := HCj.out.trans (Ck.nx HXD.out)
          gi_wp2
          go_roundw
          case rel => exact ⟨j + 1, by omega, by go_num, HJn, HCn⟩
          case measure => simp [intOf]; omega
      · have ej : j = ny := by omega
        subst ej
        gi_wp2
        refine ⟨HCj.out, ?_, ?_⟩
        · show J (extTo xs ys (k + 1) 0).length wr
          rw [← extTo_full hk, HNY.out]
          exact HJj.out
        · exact HBY.out.ck HCj.out (fun x => by have := (HX.out _ x).2; omega)
end Go.Proofs.YtcdjmpbdaiafgaaGreatDoor
