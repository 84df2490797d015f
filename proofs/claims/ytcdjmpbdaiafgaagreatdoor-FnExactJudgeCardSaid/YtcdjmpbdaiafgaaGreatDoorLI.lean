import Derived.Test.YtcdjmpbdaiafgaaGreatDoorLE
namespace Go.Proofs.YtcdjmpbdaiafgaaGreatDoor
open Go.RowKit Go.Sort Go.Maps Go.Shelf
set_option linter.unusedVariables false
set_option maxRecDepth 100000
attribute [local go_sem] Oper.semAt_some

theorem BT.ck {X K : Nat → Prop} {A B : World} {b t : Nat} {cs : Array Value} (h : BT A b cs t) (k : Ck X K A B) (hx : ¬ X b) : BT B b cs t := k.block b _ h hx (Or.inr rfl)
theorem row_ck {X K : Nat → Prop} {A B : World} {C t sz n : Nat} {v : Value} {xs : List Value} (h : A.ownsRow C t sz v n xs) (k : Ck X K A B) (hn : ∀ g, v.ownBlock = some g → ¬ X g) : B.ownsRow C t sz v n xs := by
  refine ⟨h.1, ?_⟩
  rcases h.2 with h2 | ⟨g, cap, cur, hv, hg, hh, r⟩
  · exact Or.inl h2
  · exact Or.inr ⟨g, cap, cur, hv, hg, k.block g _ hh (hn g (by rw [hv]; rfl)) (Or.inr rfl), r⟩
theorem BT.neShort {w : World} {a t u C n : Nat} {x v : Value} {xs : List Value} (h : BT w a #[x] t) (k : w.ownsRow C u 1 v n xs) (hn : 2 ≤ n) : some a ≠ v.ownBlock := by
  rcases k.2 with ⟨rfl, _⟩ | ⟨g, cap, cur, rfl, _, hh, h1, _, h2, _⟩
  · simp [Value.ownBlock]
  · intro e
    have e' : a = g := Option.some.inj e
    subst e'
    unfold BT at h
    rw [h] at hh
    simp at hh
    have := hh.1
    rw [← this] at h2
    simp at h2
    omega
/-- the marks of loops over functions -/
def mark (D : Nat) : Deferred := { target := .collected D, args := #[] }
theorem leaves_mark {F : Fence} {n : Nat} {P : Program} {fn : Func} {tmps : Array Value} {R : Ending → World → Prop} (D : Nat) (w : World) (hD : w.heap[D]? = some (.deferred (some []))) (h : ∀ w', Ck noX (fun b => b ≠ D) w w' → LeavesInM F n P fn tmps R [] .returning w') : LeavesInM F n P fn tmps R [mark D] .returning w :=
  ⟨by simp, Or.inl ⟨D, _, rfl, run_takeDeferred hD, h _ (Ck.put hD rfl (fun q => q rfl))⟩⟩
theorem Ck.low {X : Nat → Prop} {w w0 W : World} (n : Nx w w0) (hc : Ck X noX w0 W) (hX : ∀ b, X b → w.heap.size ≤ b) : Ck noX noX w W :=
  ⟨hc.os.trans n.os, hc.tape.trans n.tape, hc.output.trans n.output, Nat.le_trans n.size hc.size, fun b o hb _ hs => hc.block b o ((n.block b (Array.getElem?_eq_some_iff.1 hb).1).trans hb) (fun h => by have := hX b h; have := (Array.getElem?_eq_some_iff.1 hb).1; omega) hs⟩
theorem Ck.set {w W : World} (h : Ck noX noX w W) {b : Nat} (hb : w.heap.size ≤ b) (i : Nat) (v : Value) : Ck noX noX w (W.setCell ⟨b, i, none⟩ v) :=
  ⟨h.os, h.tape, h.output, by have := h.size; simpa [World.setCell] using this, fun c o hc hx hs => (Below.heap_setCell _ _ _ _ (by have := (Array.getElem?_eq_some_iff.1 hc).1; simp; omega)).trans (h.block c o hc hx hs)⟩
/-- the k-th chain is handed over -/
def PyC (cs : List (List Nat)) (c k : Nat) (args : Array Value) (W : World) : Prop := ∃ u, args = #[u] ∧ OwnI c W u (nums (lsat cs k)) ∧ 2 ≤ (lsat cs k).length
theorem own_some {C : Nat} {W : World} {u : Value} {l : List Nat} (h : OwnI C W u (nums l)) (hp : 2 ≤ l.length) : ∃ g c, u = .slice (some ⟨g, 0, none⟩) l.length c := by
  rcases h.2 with ⟨_, e⟩ | ⟨g, cap, cur, hv, _⟩
  · rw [show (nums l).length = l.length by simp [nums]] at e; omega
  · exact ⟨g, cap, by rw [hv]; simp [nums]⟩
def IS (C : Nat) (cs : List (List Nat)) (b2 b3 b4 : Nat) : Nat → World → Prop
  | 0, W => BT W b2 #[.slice none 0 0] 22 ∧ BT W b3 #[.int .i64 0] 2 ∧ BT W b4 #[.slice none 0 0] 22
  | 1, W => BT W b2 #[.slice none 0 0] 22 ∧ BT W b3 #[.int .i64 0] 2 ∧ ∃ u, BT W b4 #[u] 22 ∧ OwnI C W u (nums (lsat cs 0)) ∧ 2 ≤ (lsat cs 0).length
  | _, _ => False
def IxS (len b2 b3 : Nat) (W : World) : Prop := BT W b2 #[.slice none 0 0] 22 ∧ BT W b3 #[.int .i64 2] 2 ∧ 2 ≤ len
theorem IS.ck {C : Nat} {cs : List (List Nat)} {b2 b3 b4 : Nat} {K : Nat → Prop} : ∀ (k : Nat) (A B : World), IS C cs b2 b3 b4 k A → Ck noX K A B → IS C cs b2 b3 b4 k B
  | 0, A, B, h, c => ⟨h.1.ck c id, h.2.1.ck c id, h.2.2.ck c id⟩
  | 1, A, B, h, c => by
    obtain ⟨h1, h2, u, h3, h4, h5⟩ := h
    exact ⟨h1.ck c id, h2.ck c id, u, h3.ck c id, row_ck h4 c (fun _ _ => id), h5⟩
  | k + 2, A, B, h, c => h.elim
/-- what was there at w is as it was -/
def OldK (w A : World) : Prop := ∀ b, b < w.heap.size → A.heap[b]? = w.heap[b]?
theorem OldK.ck {w A B : World} {K : Nat → Prop} (h : OldK w A) (hK : ∀ b, b < w.heap.size → K b) (c : Ck noX K A B) : OldK w B := fun b hb => by
  have e : w.heap[b]? = some w.heap[b] := Array.getElem?_eq_getElem hb
  rw [e]
  exact c.block b _ ((h b hb).trans e) id (Or.inl (hK b hb))
theorem OldK.chg {w A B : World} {S : Nat → Prop} (h : OldK w A) (c : Chg S A B) (hS : ∀ b, S b → w.heap.size ≤ b) : OldK w B := fun b hb => by
  have e : w.heap[b]? = some w.heap[b] := Array.getElem?_eq_getElem hb
  have e2 := (h b hb).trans e
  rw [c.block b (Array.getElem?_eq_some_iff.1 e2).1 (fun x => by have := hS b x; omega)]
  exact h b hb
theorem OldK.nx {w A : World} (h : OldK w A) (c : Ck noX noX w A) : Nx w A := ⟨c.os, c.tape, c.output, c.size, fun b hb => h b hb⟩
theorem OldK.of {w A : World} (h : Nx w A) : OldK w A := fun b hb => h.block b hb
/-- soleChain's answer -/
def soleOf (cs : List (List Nat)) : Int := if cs.length = 0 then 1 else if cs.length = 1 then 0 else 2

set_option maxHeartbeats 8000000 in
theorem sole_any (gf : Nat) (lb : Array Value) (cs : List (List Nat)) (Inv : World → Prop) (z : Nat) (hG : Gives Tryz.prog gf lb (PyC cs) z cs.length Inv) (eg : ∀ args w, (callFunc gf args).run Tryz.prog w = .ok (.enter gf args) w) (w : World) (hz : z ≤ w.heap.size)
    (hInv : ∀ B, Ck noX noX w B → Inv B) :
    Calls Tryz.prog 70 #[.func (.func gf) #[] lb] w fun e w' => (∃ v, e = .returned (.tuple #[v, .int .i64 (soleOf cs)]) ∧ ((cs.length = 1 ∧ OwnI w.heap.size w' v (nums (lsat cs 0))) ∨ (cs.length ≠ 1 ∧ v = .slice none 0 0))) ∧ Nx w w' := by
  have HG : Hid (Gives Tryz.prog gf lb (PyC cs) z cs.length Inv) := hG
  have HIN : Hid (∀ B, Ck noX noX w B → Inv B) := hInv
  have HEG : Hid (∀ args w, (callFunc gf args).run Tryz.prog w = .ok (.enter gf args) w) := eg
  clear hG hInv eg
  refine (callsIn_wide (n := 9)).1 (callsIn_of_wp_marks Tryz.func70 rfl trivial ?_ rfl)
  refine wpIn_wide.2 ?_
  simp only [Tryz.ntmps70, List.size_toArray, List.length_cons, List.length_nil, Nat.reduceAdd, Nat.reduceSub, Array.replicate_succ, Array.replicate_zero, List.push_toArray, List.append_toArray, List.nil_append, List.cons_append]
  go_wp2
  generalize hW0 : ((w.alloc (.cells #[.slice none 0 0] 22)).alloc (.cells #[.int .i64 0] 2)).alloc (.cells #[.slice none 0 0] 22) = w0
  have HX0 : Hid (Nx w w0) := by unfold Hid; rw [← hW0]; exact ((box1 _ _).trans (box1 _ _)).trans (box1 _ _)
  have HS0 : Hid (w0.heap.size = w.heap.size + 3) := by unfold Hid; rw [← hW0]; simp
  have HB0 : Hid (IS w.heap.size cs w.heap.size (w.heap.size + 1) (w.heap.size + 1 + 1) 0 w0) := by
    unfold Hid
    rw [← hW0]
    exact ⟨((BT.new w _ _ _ rfl).alloc _).alloc _, (BT.new _ _ _ _ (by simp)).alloc _, BT.new _ _ _ _ (by simp)⟩
  clear hW0
  generalize hb4 : w.heap.size + 1 + 1 = b4 at *
  generalize hb3 : w.heap.size + 1 = b3 at *
  have HBB : Hid (b3 = w.heap.size + 1 ∧ b4 = w.heap.size + 2) := by unfold Hid; omega
  clear hb4 hb3
  refine (wpIn_wide (n := 9)).1 ?_
  refine range_gives HG.out rfl HEG.out (fun b => b = w.heap.size ∨ b = b3 ∨ b = b4) ?hX ?hps ?hPy ?hInv (fun k W => IS w.heap.size cs w.heap.size b3 b4 k W ∧ OldK w W) (fun W => IxS cs.length w.heap.size b3 W ∧ OldK w W) ?hI ?hIx ⟨HB0.out, OldK.of HX0.out⟩ (fun args a' W => ∃ u, args = #[u] ∧ a' = ⟨#[.func (.func gf) #[] lb, undef, .pointer (some ⟨w.heap.size, 0, none⟩), .pointer (some ⟨b3, 0, none⟩), .pointer (some ⟨b4, 0, none⟩), u, .func (.func gf) #[] lb, u, undef, undef, undef, undef, undef, undef], []⟩) ?hAx ?assign ?body ?done ?stop
  case hX => intro b h; have := HS0.out; have := HBB.out; rcases h with h | h | h <;> exact ⟨by omega, by omega⟩
  case hps => rintro k args W ⟨u, rfl, _⟩; rfl
  case hPy => rintro k args A B ⟨u, h1, h2, h3⟩ hc; exact ⟨u, h1, row_ck h2 hc (fun _ _ => id), h3⟩
  case hInv => exact fun B hc => HIN.out B (Ck.low HX0.out hc (fun b h => by have := HBB.out; rcases h with h | h | h <;> omega))
  case hI => exact fun k A B h c => ⟨IS.ck k A B h.1 c, h.2.ck (fun b q => by have := HS0.out; omega) c⟩
  case hIx => rintro A B ⟨⟨h1, h2, h3⟩, ho⟩ hc; exact ⟨⟨h1.ck hc id, h2.ck hc id, h3⟩, ho.ck (fun b q => by have := HS0.out; omega) hc⟩
  case hAx => exact fun args a' A B h _ => h
  case assign =>
    rintro l k args W K hk _ ⟨u, rfl, hu, hp⟩ hK
    obtain ⟨g, c, rfl⟩ := own_some hu hp
    clear hu
    gi_wp2
    exact hK _ _ (Below.refl _ _) ⟨_, rfl, rfl⟩
  case body =>
    rintro l k args a' W hk ⟨hI, hOld⟩ ⟨u, rfl, hu, hp⟩ ⟨u', e', rfl⟩ hc
    have HOLD : Hid (OldK w W) := hOld
    clear hOld
    have e2 : u = u' := by simpa using e'
    subst e2
    obtain ⟨g, c, rfl⟩ := own_some hu hp
    have HU : Hid (OwnI w.heap.size W (.slice (some ⟨g, 0, none⟩) (lsat cs k).length c) (nums (lsat cs k))) := OwnI.base hu (by have := HS0.out; omega)
    clear e' hu
    match k, hk, hI, hp with
    | 0, hk, hI, hp =>
      have H2 : Hid (BT W w.heap.size #[.slice none 0 0] 22) := hI.1
      have H3 : Hid (BT W b3 #[.int .i64 0] 2) := hI.2.1
      have H4 : Hid (BT W b4 #[.slice none 0 0] 22) := hI.2.2
      have x4 := H4.out.blk.cell (i := 0) rfl
      have f4 := H4.out.blk.frozen 0
      clear hI
      gi_wp2
      have n2 : ¬ w.heap.size = b4 := by have := HBB.out; omega
      have n3 : ¬ b3 = b4 := by have := HBB.out; omega
      refine ⟨Ck.chg (Chg.set _ _ _ (Or.inr (Or.inr rfl))), ?_⟩
      have hst : Chg (fun x => x = b4) W (W.setCell ⟨b4, 0, none⟩ (.slice (some ⟨g, 0, none⟩) (lsat cs 0).length c)) := Chg.set _ _ _ rfl
      exact ⟨⟨H2.out.chg hst n2, H3.out.chg hst n3, _, H4.out.set 0 _, row_chg HU.out hst (fun g hg e => by subst e; exact H4.out.neRow HU.out (by decide) hg.symm), hp⟩, HOLD.out.chg hst (fun b e => by have := HBB.out; omega)⟩
    | 1, hk, hI, hp =>
      obtain ⟨h2, h3, u0, h4, h5, h6⟩ := hI
      obtain ⟨g0, c0, rfl⟩ := own_some h5 h6
      have H2 : Hid (BT W w.heap.size #[.slice none 0 0] 22) := h2
      have H3 : Hid (BT W b3 #[.int .i64 0] 2) := h3
      have x4 := h4.blk.cell (i := 0) rfl
      have x2 := h2.blk.cell (i := 0) rfl
      have x3 := h3.blk.cell (i := 0) rfl
      have f2 := h2.blk.frozen 0
      have f3 := h3.blk.frozen 0
      have n3 : ¬ b3 = w.heap.size := by have := HBB.out; omega
      have hst : Chg (fun x => x = w.heap.size) W (W.setCell ⟨w.heap.size, 0, none⟩ (.slice none 0 0)) := Chg.set _ _ _ rfl
      have h3' := h3.chg hst n3
      have y3 := h3'.blk.cell (i := 0) rfl
      have g3 := h3'.blk.frozen 0
      have HB3 : Hid (BT (W.setCell ⟨w.heap.size, 0, none⟩ (.slice none 0 0)) b3 #[.int .i64 0] 2) := h3'
      have HB2 : Hid (BT (W.setCell ⟨w.heap.size, 0, none⟩ (.slice none 0 0)) w.heap.size #[.slice none 0 0] 22) := h2.set 0 _
      clear h2 h3 h4 h5 h3' hst
      gi_wp2
      refine ⟨(Ck.chg (Chg.set _ _ _ (Or.inl rfl))).trans (Ck.chg (Chg.set _ _ _ (Or.inr (Or.inl rfl)))), ⟨HB2.out.chg (S := fun x => x = b3) (Chg.set _ _ _ rfl) (fun e => n3 e.symm), HB3.out.set 0 _, hk⟩, (HOLD.out.chg (S := fun x => x = w.heap.size) (Chg.set _ _ _ rfl) (fun b e => by omega)).chg (S := fun x => x = b3) (Chg.set _ _ _ rfl) (fun b e => by have := HBB.out; omega)⟩
    | k + 2, hk, hI, hp => exact hI.elim
  case done =>
    rintro D W hDw ⟨hI, hOld⟩ hc hD
    have HOLD : Hid (OldK w W) := hOld
    have HDW : Hid (w.heap.size < D) := by have := HS0.out; unfold Hid; omega
    clear hOld hDw
    have HD : Hid (W.heap[D]? = some (.deferred (some []))) := hD
    have HCW : Hid (Ck noX noX w W) := Ck.low HX0.out hc (fun b h => by have := HBB.out; rcases h with h | h | h <;> omega)
    have hn0 : ∀ W, (binOp .eql 22 (.slice none 0 0) (.slice none 0 0)).run Tryz.prog W = .ok (.bool true) W := fun W => by kernel_rfl
    have hn1 : ∀ (g n c : Nat) W, (binOp .eql 22 (.slice (some ⟨g, 0, none⟩) n c) (.slice none 0 0)).run Tryz.prog W = .ok (.bool false) W := fun g n c W => by kernel_rfl
    clear hD hc
    generalize hlen : cs.length = n at *
    match n, hI with
    | 0, hI =>
      have H2 : Hid (BT W w.heap.size #[.slice none 0 0] 22) := hI.1
      have H3 : Hid (BT W b3 #[.int .i64 0] 2) := hI.2.1
      have x4 := hI.2.2.blk.cell (i := 0) rfl
      clear hI
      have x2 := H2.out.blk.cell (i := 0) rfl
      have f2 := H2.out.blk.frozen 0
      have hst : Chg (fun x => x = w.heap.size) W (W.setCell ⟨w.heap.size, 0, none⟩ (.slice none 0 0)) := Chg.set _ _ _ rfl
      have h3' := H3.out.chg hst (by have := HBB.out; omega)
      have y3 := h3'.blk.cell (i := 0) rfl
      have g3 := h3'.blk.frozen 0
      have HB3 : Hid (BT ((W.setCell ⟨w.heap.size, 0, none⟩ (.slice none 0 0)).setCell ⟨b3, 0, none⟩ (.int .i64 1)) b3 #[.int .i64 1] 2) := h3'.set 0 _
      have HB2 : Hid (BT ((W.setCell ⟨w.heap.size, 0, none⟩ (.slice none 0 0)).setCell ⟨b3, 0, none⟩ (.int .i64 1)) w.heap.size #[.slice none 0 0] 22) := (H2.out.set 0 _).chg (S := fun x => x = b3) (Chg.set _ _ _ rfl) (by have := HBB.out; omega)
      have HCF : Hid (Ck noX noX w ((W.setCell ⟨w.heap.size, 0, none⟩ (.slice none 0 0)).setCell ⟨b3, 0, none⟩ (.int .i64 1))) := (HCW.out.set (Nat.le_refl _) _ _).set (by have := HBB.out; omega) _ _
      have HOF : Hid (OldK w ((W.setCell ⟨w.heap.size, 0, none⟩ (.slice none 0 0)).setCell ⟨b3, 0, none⟩ (.int .i64 1))) := (HOLD.out.chg (S := fun x => x = w.heap.size) (Chg.set _ _ _ rfl) (fun b e => by omega)).chg (S := fun x => x = b3) (Chg.set _ _ _ rfl) (fun b e => by have := HBB.out; omega)
      have HDF : Hid (((W.setCell ⟨w.heap.size, 0, none⟩ (.slice none 0 0)).setCell ⟨b3, 0, none⟩ (.int .i64 1)).heap[D]? = some (.deferred (some []))) := by
        have e1 : ¬ D = w.heap.size := fun e => by have h := HD.out; rw [e] at h; rw [show W.heap[w.heap.size]? = _ from H2.out] at h; cases h
        have e2 : ¬ D = b3 := fun e => by have h := HD.out; rw [e] at h; rw [show W.heap[b3]? = _ from H3.out] at h; cases h
        exact (Below.heap_setCell _ _ _ _ (by simpa using e2)).trans ((Below.heap_setCell _ _ _ _ (by simpa using e1)).trans HD.out)
      clear h3' hst
      go_wp2
      refine leaves_mark D _ HDF.out (fun W' ho => ?_)
      have q2 := (HB2.out.ck ho id).blk.cell (i := 0) rfl
      have q3 := (HB3.out.ck ho id).blk.cell (i := 0) rfl
      refine ⟨.tuple #[.slice none 0 0, .int .i64 1], by simp [results, Tryz.results70, go_sem, q2, q3], ⟨_, by unfold soleOf; rw [if_pos hlen], Or.inr ⟨by omega, rfl⟩⟩, (HOF.out.ck (fun b q => by have := HDW.out; omega) ho).nx (HCF.out.trans (ho.mono (fun _ x => x) (fun _ x => x.elim)))⟩
    | 1, hI =>
      obtain ⟨h2, h3, u, h4, h5, h6⟩ := hI
      obtain ⟨g, c, rfl⟩ := own_some h5 h6
      have H2 : Hid (BT W w.heap.size #[.slice none 0 0] 22) := h2
      have H3 : Hid (BT W b3 #[.int .i64 0] 2) := h3
      have H4 : Hid (BT W b4 #[.slice (some ⟨g, 0, none⟩) (lsat cs 0).length c] 22) := h4
      have HU : Hid (OwnI w.heap.size W (.slice (some ⟨g, 0, none⟩) (lsat cs 0).length c) (nums (lsat cs 0))) := h5
      have x4 := h4.blk.cell (i := 0) rfl
      clear h2 h3 h4 h5
      have x2 := H2.out.blk.cell (i := 0) rfl
      have f2 := H2.out.blk.frozen 0
      have hst : Chg (fun x => x = w.heap.size) W (W.setCell ⟨w.heap.size, 0, none⟩ (.slice (some ⟨g, 0, none⟩) (lsat cs 0).length c)) := Chg.set _ _ _ rfl
      have h3' := H3.out.chg hst (by have := HBB.out; omega)
      have y3 := h3'.blk.cell (i := 0) rfl
      have g3 := h3'.blk.frozen 0
      have HB3 : Hid (BT ((W.setCell ⟨w.heap.size, 0, none⟩ (.slice (some ⟨g, 0, none⟩) (lsat cs 0).length c)).setCell ⟨b3, 0, none⟩ (.int .i64 0)) b3 #[.int .i64 0] 2) := h3'.set 0 _
      have HB2 : Hid (BT ((W.setCell ⟨w.heap.size, 0, none⟩ (.slice (some ⟨g, 0, none⟩) (lsat cs 0).length c)).setCell ⟨b3, 0, none⟩ (.int .i64 0)) w.heap.size #[.slice (some ⟨g, 0, none⟩) (lsat cs 0).length c] 22) := (H2.out.set 0 _).chg (S := fun x => x = b3) (Chg.set _ _ _ rfl) (by have := HBB.out; omega)
      have HCF : Hid (Ck noX noX w ((W.setCell ⟨w.heap.size, 0, none⟩ (.slice (some ⟨g, 0, none⟩) (lsat cs 0).length c)).setCell ⟨b3, 0, none⟩ (.int .i64 0))) := (HCW.out.set (Nat.le_refl _) _ _).set (by have := HBB.out; omega) _ _
      have HOF : Hid (OldK w ((W.setCell ⟨w.heap.size, 0, none⟩ (.slice (some ⟨g, 0, none⟩) (lsat cs 0).length c)).setCell ⟨b3, 0, none⟩ (.int .i64 0))) := (HOLD.out.chg (S := fun x => x = w.heap.size) (Chg.set _ _ _ rfl) (fun b e => by omega)).chg (S := fun x => x = b3) (Chg.set _ _ _ rfl) (fun b e => by have := HBB.out; omega)
      have HDF : Hid (((W.setCell ⟨w.heap.size, 0, none⟩ (.slice (some ⟨g, 0, none⟩) (lsat cs 0).length c)).setCell ⟨b3, 0, none⟩ (.int .i64 0)).heap[D]? = some (.deferred (some []))) := by
        have e1 : ¬ D = w.heap.size := fun e => by have h := HD.out; rw [e] at h; rw [show W.heap[w.heap.size]? = _ from H2.out] at h; cases h
        have e2 : ¬ D = b3 := fun e => by have h := HD.out; rw [e] at h; rw [show W.heap[b3]? = _ from H3.out] at h; cases h
        exact (Below.heap_setCell _ _ _ _ (by simpa using e2)).trans ((Below.heap_setCell _ _ _ _ (by simpa using e1)).trans HD.out)
      have hro := row_chg (row_chg HU.out hst (fun g hg e => by subst e; exact H2.out.neRow HU.out (by decide) hg.symm)) (Chg.set (S := fun x => x = b3) b3 0 (.int .i64 0) rfl) (fun g hg e => by subst e; exact H3.out.neShort HU.out (by simpa [nums] using h6) hg.symm)
      have HUF : Hid (OwnI w.heap.size _ (.slice (some ⟨g, 0, none⟩) (lsat cs 0).length c) (nums (lsat cs 0))) := hro
      clear h3' hst hro
      go_wp2
      refine leaves_mark D _ HDF.out (fun W' ho => ?_)
      have q2 := (HB2.out.ck ho id).blk.cell (i := 0) rfl
      have q3 := (HB3.out.ck ho id).blk.cell (i := 0) rfl
      refine ⟨.tuple #[.slice (some ⟨g, 0, none⟩) (lsat cs 0).length c, .int .i64 0], by simp [results, Tryz.results70, go_sem, q2, q3], ⟨_, by unfold soleOf; rw [if_neg (by omega), if_pos hlen], Or.inl ⟨hlen, row_ck HUF.out ho (fun _ _ => id)⟩⟩, (HOF.out.ck (fun b q => by have := HDW.out; omega) ho).nx (HCF.out.trans (ho.mono (fun _ x => x) (fun _ x => x.elim)))⟩
    | k + 2, hI => exact hI.elim
  case stop =>
    rintro D W hDw ⟨⟨h2, h3, h4⟩, hOld⟩ hc hD
    have HOLD : Hid (OldK w W) := hOld
    have HDW : Hid (w.heap.size < D) := by have := HS0.out; unfold Hid; omega
    clear hOld hDw
    have HCW : Hid (Ck noX noX w W) := Ck.low HX0.out hc (fun b h => by have := HBB.out; rcases h with h | h | h <;> omega)
    refine wpIn_wide.2 ?_
    go_wp2
    refine leaves_mark D _ hD (fun W' ho => ?_)
    have q2 := (h2.ck ho id).blk.cell (i := 0) rfl
    have q3 := (h3.ck ho id).blk.cell (i := 0) rfl
    refine ⟨.tuple #[.slice none 0 0, .int .i64 2], by simp [results, Tryz.results70, go_sem, q2, q3], ⟨_, by unfold soleOf; rw [if_neg (by omega), if_neg (by omega)], Or.inr ⟨by omega, rfl⟩⟩, (HOLD.out.ck (fun b q => by have := HDW.out; omega) ho).nx (HCW.out.trans (ho.mono (fun _ x => x) (fun _ x => x.elim)))⟩
end Go.Proofs.YtcdjmpbdaiafgaaGreatDoor

namespace Go.Proofs.YtcdjmpbdaiafgaaGreatDoor
set_option linter.unusedVariables false
-- stretches that are extended: how many have come, and which comes next
def joinS (a b : Sx) : Sx := ⟨a.t, b.h, a.l ++ b.l⟩
def extOf (a : Sx) (ys : List Sx) : List Sx := (ys.filter fun b => decide (a.h = b.t)).map (joinS a)
def exts (xs ys : List Sx) : List Sx := xs.flatMap fun a => extOf a ys
def extTo (xs ys : List Sx) (k j : Nat) : List Sx := exts (xs.take k) ys ++ extOf (sxat xs k) (ys.take j)
theorem sx_take {xs : List Sx} {k : Nat} (h : k < xs.length) : xs.take (k + 1) = xs.take k ++ [sxat xs k] := by
  rw [List.take_add_one]
  simp [sxat, List.getD_eq_getElem?_getD, h]
theorem extTo_start (xs ys : List Sx) : extTo xs ys 0 0 = [] := by simp [extTo, exts, extOf]
theorem extTo_zero (xs ys : List Sx) (k : Nat) : extTo xs ys k 0 = exts (xs.take k) ys := by simp [extTo, extOf]
theorem extTo_full {xs ys : List Sx} {k : Nat} (h : k < xs.length) : extTo xs ys k ys.length = extTo xs ys (k + 1) 0 := by
  rw [extTo_zero, sx_take h]
  simp [extTo, exts]
theorem extTo_all (xs ys : List Sx) : extTo xs ys xs.length 0 = exts xs ys := by rw [extTo_zero, List.take_length]
theorem extTo_yes {xs ys : List Sx} {k j : Nat} (h : j < ys.length) (e : (sxat xs k).h = (sxat ys j).t) : extTo xs ys k (j + 1) = extTo xs ys k j ++ [joinS (sxat xs k) (sxat ys j)] := by
  unfold extTo extOf
  rw [sx_take h, List.filter_append]
  simp [e]
theorem extTo_no {xs ys : List Sx} {k j : Nat} (h : j < ys.length) (e : ¬ (sxat xs k).h = (sxat ys j).t) : extTo xs ys k (j + 1) = extTo xs ys k j := by
  unfold extTo extOf
  rw [sx_take h, List.filter_append]
  simp [e]
theorem extTo_pre {xs ys : List Sx} {k j : Nat} (hk : k < xs.length) : extTo xs ys k j <+: exts xs ys := by
  have e1 : xs = xs.take k ++ sxat xs k :: xs.drop (k + 1) := by
    conv => lhs; rw [← List.take_append_drop (k + 1) xs, sx_take hk]
    simp
  have e2 : extOf (sxat xs k) ys = extOf (sxat xs k) (ys.take j) ++ extOf (sxat xs k) (ys.drop j) := by
    unfold extOf
    rw [← List.map_append, ← List.filter_append, List.take_append_drop]
  refine ⟨extOf (sxat xs k) (ys.drop j) ++ exts (xs.drop (k + 1)) ys, ?_⟩
  conv => rhs; rw [e1]
  unfold extTo exts
  rw [List.flatMap_append, List.flatMap_cons, e2]
  simp
/-- the next one that comes -/
theorem extTo_next {xs ys : List Sx} {k j : Nat} (hk : k < xs.length) (h : j < ys.length) (e : (sxat xs k).h = (sxat ys j).t) : (extTo xs ys k j).length < (exts xs ys).length ∧ sxat (exts xs ys) (extTo xs ys k j).length = joinS (sxat xs k) (sxat ys j) := by
  obtain ⟨r, hr⟩ := extTo_pre (ys := ys) (j := j + 1) hk
  rw [extTo_yes h e] at hr
  rw [← hr]
  refine ⟨by simp, ?_⟩
  simp [sxat, List.getD_eq_getElem?_getD]
end Go.Proofs.YtcdjmpbdaiafgaaGreatDoor
