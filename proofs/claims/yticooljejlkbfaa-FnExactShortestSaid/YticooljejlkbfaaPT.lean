import Derived.Test.YticooljejlkbfaaPR
namespace Go.Proofs.Yticooljejlkbfaa
open Go.RowKit Go.Sort Go.Maps Go.Shelf
set_option linter.unusedVariables false
set_option maxRecDepth 1000000
attribute [local go_sem] Oper.semAt_some

def rangesOf : Code → List Code
  | .rangeFunc f ps a b => .rangeFunc f ps a b :: rangesOf b
  | .loop c => rangesOf c
  | .seq a b => rangesOf a ++ rangesOf b
  | .block _ c => rangesOf c
  | .scope c => rangesOf c
  | .cond _ a b => rangesOf a ++ rangesOf b
  | _ => []

theorem ownFrom_of {β : Type} {B : Nat} {I : β → World → Prop} (h : ∀ s W W' row, I s W → W.grownBy W' row → (∀ r, row = some r → B ≤ r ∧ ∃ o : Obj, W.heap[r]? = some o ∧ o.isCells = false) → I s W') : OwnFrom B I := h
/-- between two rounds -/
def RI2 (C : Nat) (w : World) (Ds : List Nat) (sb p q mb rb n : Nat) (gv : List Value) (t : Int) (b : Rk) (sv : Value) (G : Gr) (s0 : Nat) (w0 : Int) (S : List Nat) (v : Nat) (r : Rk) (bx bg bv bs g5 : Nat) (pre : List (ArcX G r v)) (W : World) : Prop :=
  (∃ iv K L D, RG C W sb p q mb rb n gv t b sv G s0 w0 S v r bx bg bv bs g5 (pre.map (·.1)) iv K L D) ∧ Below C w W ∧ ∀ D ∈ Ds, W.heap[D]? = some (.deferred (some []))
theorem RI2.own {C : Nat} {w : World} {Ds : List Nat} {sb p q mb rb n : Nat} {gv : List Value} {t : Int} {b : Rk} {sv : Value} {G : Gr} {s0 : Nat} {w0 : Int} {S : List Nat} {v : Nat} {r : Rk} {bx bg bv bs g5 : Nat} (hC : C ≤ w.heap.size) (hm : mb < w.heap.size) (hD : ∀ D ∈ Ds, D < w.heap.size) : OwnFrom w.heap.size (RI2 C w Ds sb p q mb rb n gv t b sv G s0 w0 S v r bx bg bv bs g5) := by
  rintro pre W W' row ⟨⟨iv, K, L, D, h⟩, hb, hd⟩ hg hr
  refine ⟨⟨iv, K, L, D, h.grown hg (fun x e => ⟨by have := (hr x e).1; omega, (hr x e).2⟩)⟩, ownFrom_below (β := Unit) hC hC () W W' row hb hg hr, fun E hE => ?_⟩
  refine (hg.block E (Array.getElem?_eq_some_iff.1 (hd E hE)).1 (fun e => ?_)).trans (hd E hE)
  have := (hr E e.symm).1
  have := hD E hE
  omega

set_option maxHeartbeats 16000000 in
theorem spread_range (C : Nat) (w : World) (Ds : List Nat) (sb p q mb rb n : Nat) (gv : List Value) (t : Int) (b : Rk) (sv : Value) (G : Gr) (s0 : Nat) (w0 : Int) (S : List Nat) (v : Nat) (r : Rk) (bx bg bv bs g5 : Nat) (b2 o2 m2 c2 : Nat) (a3 : Option Addr) (m3 c3 : Nat) (a4 : Option Addr) (m4 c4 : Nat) (HVG : Hid (VG G)) (hv : v < G.eo.length) (hm2 : m2 = G.fi.length) (hm3 : m3 = G.tt.length) (hm4 : m4 = G.co.length) (hnG : G.eo.length = n) (hn : n ≤ 6000) (hr1 : 0 ≤ r.1 ∧ r.1 ≤ 100000000000) (hr2 : 0 ≤ r.2 ∧ r.2 ≤ 100000) (hC : C ≤ w.heap.size) (hmb : mb < w.heap.size) (hDs : ∀ D ∈ Ds, D < w.heap.size)
    (HSEP : Hid ((bx ∉ [rb, q, mb] ∧ bg ∉ [rb, q, mb] ∧ bv ∉ [rb, q, mb] ∧ bs ∉ [rb, q, mb] ∧ g5 ∉ [rb, q, mb]) ∧ (b2 < C ∧ (fst G v < fst G (v + 1) → ∀ b o, a3 = some ⟨b, o, none⟩ → b < C) ∧ (fst G v < fst G (v + 1) → ∀ b o, a4 = some ⟨b, o, none⟩ → b < C)) ∧ (bx < w.heap.size ∧ bg < w.heap.size ∧ bv < w.heap.size ∧ bs < w.heap.size ∧ g5 < w.heap.size)))
    (HI : Hid (ITC w bg bv bs p rb n v b2 o2 m2 c2 a3 m3 c3 a4 m4 c4 G r)) (H0 : Hid (RI2 C w Ds sb p q mb rb n gv t b sv G s0 w0 S v r bx bg bv bs g5 [] w)) (u0 u1 u3 u4 u5 u6 u7 u8 u9 u10 u11 u12 u13 u14 u15 u16 u17 u18 u19 u20 u21 u22 u23 u24 u25 u26 u27 u28 u29 u30 u31 u32 u33 u34 u35 u36 u37 u38 u39 u40 u41 u42 u43 u44 u45 u46 u47 u48 u49 u50 u51 u52 u53 u54 u55 u56 u57 u58 u59 u60 u61 u62 u63 u64 u65 u66 u67 u68 u69 u70 u71 u72 u73 u74 u75 u77 u78 u79 u80 u81 u82 : Value) (ds : List Deferred) (Q : Exit → Act → World → Prop)
    (hdone : ∀ (E : Nat) (ys : List (ArcX G r v)) (W : World), w.heap.size ≤ E → ys.map (·.1) = outK G r v (fst G (v + 1)) → RI2 C w Ds sb p q mb rb n gv t b sv G s0 w0 S v r bx bg bv bs g5 ys W → W.heap[E]? = some (.deferred (some [])) → Q .normal ⟨List.toArray (u0 :: u1 :: .pointer (some ⟨bx, 0, none⟩) :: u3 :: u4 :: u5 :: u6 :: u7 :: u8 :: u9 :: u10 :: u11 :: u12 :: u13 :: u14 :: u15 :: u16 :: u17 :: u18 :: u19 :: u20 :: u21 :: u22 :: u23 :: u24 :: u25 :: u26 :: u27 :: u28 :: u29 :: u30 :: u31 :: u32 :: u33 :: u34 :: u35 :: u36 :: u37 :: u38 :: u39 :: u40 :: u41 :: u42 :: u43 :: u44 :: u45 :: u46 :: u47 :: u48 :: u49 :: u50 :: u51 :: u52 :: u53 :: u54 :: u55 :: u56 :: u57 :: u58 :: u59 :: u60 :: u61 :: u62 :: u63 :: u64 :: u65 :: u66 :: u67 :: u68 :: u69 :: u70 :: u71 :: u72 :: u73 :: u74 :: u75 :: .func (.func 65) #[] #[.pointer (some ⟨bg, 0, none⟩), .pointer (some ⟨bv, 0, none⟩), .pointer (some ⟨bs, 0, none⟩)] :: u77 :: u78 :: u79 :: u80 :: u81 :: u82 :: []), mark E :: ds⟩ W) :
    Code.wp Try.prog ((((Try.f38.body.map rangesOf).getD [])[0]?).getD .skip) Q ⟨List.toArray (u0 :: u1 :: .pointer (some ⟨bx, 0, none⟩) :: u3 :: u4 :: u5 :: u6 :: u7 :: u8 :: u9 :: u10 :: u11 :: u12 :: u13 :: u14 :: u15 :: u16 :: u17 :: u18 :: u19 :: u20 :: u21 :: u22 :: u23 :: u24 :: u25 :: u26 :: u27 :: u28 :: u29 :: u30 :: u31 :: u32 :: u33 :: u34 :: u35 :: u36 :: u37 :: u38 :: u39 :: u40 :: u41 :: u42 :: u43 :: u44 :: u45 :: u46 :: u47 :: u48 :: u49 :: u50 :: u51 :: u52 :: u53 :: u54 :: u55 :: u56 :: u57 :: u58 :: u59 :: u60 :: u61 :: u62 :: u63 :: u64 :: u65 :: u66 :: u67 :: u68 :: u69 :: u70 :: u71 :: u72 :: u73 :: u74 :: u75 :: .func (.func 65) #[] #[.pointer (some ⟨bg, 0, none⟩), .pointer (some ⟨bv, 0, none⟩), .pointer (some ⟨bs, 0, none⟩)] :: u77 :: u78 :: u79 :: u80 :: u81 :: u82 :: []), ds⟩ w := by
  conv => arg 2; whnf
  have HDONE : Hid (∀ (E : Nat) (ys : List (ArcX G r v)) (W : World), w.heap.size ≤ E → ys.map (·.1) = outK G r v (fst G (v + 1)) → RI2 C w Ds sb p q mb rb n gv t b sv G s0 w0 S v r bx bg bv bs g5 ys W → W.heap[E]? = some (.deferred (some [])) → Q .normal ⟨List.toArray (u0 :: u1 :: .pointer (some ⟨bx, 0, none⟩) :: u3 :: u4 :: u5 :: u6 :: u7 :: u8 :: u9 :: u10 :: u11 :: u12 :: u13 :: u14 :: u15 :: u16 :: u17 :: u18 :: u19 :: u20 :: u21 :: u22 :: u23 :: u24 :: u25 :: u26 :: u27 :: u28 :: u29 :: u30 :: u31 :: u32 :: u33 :: u34 :: u35 :: u36 :: u37 :: u38 :: u39 :: u40 :: u41 :: u42 :: u43 :: u44 :: u45 :: u46 :: u47 :: u48 :: u49 :: u50 :: u51 :: u52 :: u53 :: u54 :: u55 :: u56 :: u57 :: u58 :: u59 :: u60 :: u61 :: u62 :: u63 :: u64 :: u65 :: u66 :: u67 :: u68 :: u69 :: u70 :: u71 :: u72 :: u73 :: u74 :: u75 :: .func (.func 65) #[] #[.pointer (some ⟨bg, 0, none⟩), .pointer (some ⟨bv, 0, none⟩), .pointer (some ⟨bs, 0, none⟩)] :: u77 :: u78 :: u79 :: u80 :: u81 :: u82 :: []), mark E :: ds⟩ W) := hdone
  clear hdone
  refine (wpIn_wide (n := 9)).1 ?_
  refine wpIn_rangeFunc_ownH (n := 9) (F := Fence.wide) rfl (by decide) (gf := 65) (lb := #[.pointer (some ⟨bg, 0, none⟩), .pointer (some ⟨bv, 0, none⟩), .pointer (some ⟨bs, 0, none⟩)]) rfl trivial (enters_of Try.func65 (by kernel_rfl) rfl)
    (onward_stops bg bv bs p rb n v b2 o2 m2 c2 a3 m3 c3 a4 m4 c4 G r 40000 8 HVG.out hv hm2 hm3 hm4 (by omega) hr1 hr2 ?hN w HI.out) (fun h1 h2 h3 => h2 (h1 h3)) (fun W l o o' _ h ho _ hI => itc_put bg bv bs p rb n v b2 o2 m2 c2 a3 m3 c3 a4 m4 c4 G r W l o o' h ho hI) (Below.refl _ _) (fun _ => rfl)
    (RI2 C w Ds sb p q mb rb n gv t b sv G s0 w0 S v r bx bg bv bs g5) (fun _ _ _ => False) (RI2.own hC hmb hDs) (fun _ _ _ _ _ h _ _ => h) H0.out
    (fun x a' W => ∃ Bx, w.heap.size ≤ Bx ∧ W.cell? ⟨Bx, 0, none⟩ = some (.int .i64 x.1.2.1) ∧ W.cell? ⟨Bx, 1, none⟩ = some (.int .i64 x.1.2.2) ∧ a' = ⟨List.toArray (u0 :: u1 :: .pointer (some ⟨bx, 0, none⟩) :: u3 :: u4 :: u5 :: u6 :: u7 :: .int .i64 (x.1.1 : Int) :: .pointer (some ⟨Bx, 0, none⟩) :: u10 :: u11 :: u12 :: u13 :: u14 :: u15 :: u16 :: u17 :: u18 :: u19 :: u20 :: u21 :: u22 :: u23 :: u24 :: u25 :: u26 :: u27 :: u28 :: u29 :: u30 :: u31 :: u32 :: u33 :: u34 :: u35 :: u36 :: u37 :: u38 :: u39 :: u40 :: u41 :: u42 :: u43 :: u44 :: u45 :: u46 :: u47 :: u48 :: u49 :: u50 :: u51 :: u52 :: u53 :: u54 :: u55 :: u56 :: u57 :: u58 :: u59 :: u60 :: u61 :: u62 :: u63 :: u64 :: u65 :: u66 :: u67 :: u68 :: u69 :: u70 :: u71 :: u72 :: u73 :: u74 :: u75 :: .func (.func 65) #[] #[.pointer (some ⟨bg, 0, none⟩), .pointer (some ⟨bv, 0, none⟩), .pointer (some ⟨bs, 0, none⟩)] :: .int .i64 (x.1.1 : Int) :: .agg #[.int .i64 x.1.2.1, .int .i64 x.1.2.2] :: u79 :: u80 :: u81 :: u82 :: []), []⟩) ?hAx ?assign ?body ?done ?stop
  case hN =>
    have h1 := (fst_eq HVG.out (show v + 1 ≤ G.eo.length by omega)).2
    have h2 := HVG.out.t
    omega
  case hAx =>
    rintro x a' _ W W' row ⟨Bx, h1, h2, h3, h4⟩ hg hr
    exact ⟨Bx, h1, cell_kept h2 hg (fun r e => (hr r e).2), cell_kept h3 hg (fun r e => (hr r e).2), h4⟩
  case stop =>
    rintro D c pre W _ _ h _
    exact h.elim
  case done =>
    intro E ys W hE hys hI hK
    exact HDONE.out E ys W hE hys hI hK
  case assign =>
    intro l pre x W K hI hK
    obtain ⟨⟨iv, K1, L, D, hRG⟩, hB, hD⟩ := hI
    have HW : Hid (w.heap.size ≤ W.heap.size) := hB.size
    have HRG : Hid (RI2 C w Ds sb p q mb rb n gv t b sv G s0 w0 S v r bx bg bv bs g5 pre (W.alloc (.cells #[.int .i64 x.1.2.1, .int .i64 x.1.2.2] 56))) := (RI2.own hC hmb hDs).alloc _ ⟨⟨iv, K1, L, D, hRG⟩, hB, hD⟩
    clear hRG hB hD
    unfold encA
    gi_wp2
    exact hK _ _ ((KeepsOthers.alloc _ _).from _) (fun h => h.kept (fun b o u hc => cellq (box1 _ _) hc)) HRG.out ⟨W.heap.size, HW.out, (Blk.new W #[.int .i64 x.1.2.1, .int .i64 x.1.2.2] 56 _ rfl).cell (i := 0) rfl, (Blk.new W #[.int .i64 x.1.2.1, .int .i64 x.1.2.2] 56 _ rfl).cell (i := 1) rfl, rfl⟩
  case body =>
    rintro l pre x a' W hl ⟨rec, hrec⟩ ⟨⟨iv, K1, L, D, hRG⟩, hB, hD⟩ ⟨Bx, hBx, hb1, hb2, rfl⟩ hlen
    obtain ⟨k, hk, hxe⟩ := okX_arc HVG.out hv x.2
    have HRG : Hid (RG C W sb p q mb rb n gv t b sv G s0 w0 S v r bx bg bv bs g5 (pre.map (·.1)) iv K1 L D) := hRG
    have HB : Hid (Below C w W) := hB
    have HD : Hid (∀ D ∈ Ds, W.heap[D]? = some (.deferred (some []))) := hD
    have HK : Hid ((x.1.1, k) ∈ arcsG G v) := hk
    have HXE : Hid (x.1.2 = aft r k) := hxe
    have HTN : Hid (x.1.1 < n) := by have := arcs_lt HVG.out _ _ _ hk; unfold Hid; omega
    have x1 := hRG.x
    have HCW : Hid (C ≤ W.heap.size) := Nat.le_trans hC hB.size
    clear hRG hB hD hk hxe
    gi_wp2_with (refine ⟨trivial, ?_⟩; gi_at_call 52; refine (CallsIn.inRound l (callsIn_wide.2 (reach_any C sb p q mb rb n gv t b iv sv K1 L D (S ++ [v]) x.1.1 x.1.2 _ HRG.out.s HTN.out hn (fun hm => (HRG.out.j.dom _).2 (Or.inr hm)) HCW.out))).mono ?_; rintro e W' ⟨y, iv', K', L', D', rfl, hRC⟩)
    have hS := HRG.out.s
    obtain ⟨⟨s1, s2, s3⟩, ⟨s4, s5, s6⟩, s7⟩ := hS.sep
    obtain ⟨cr, hcr, _⟩ := hS.k
    obtain ⟨es, clock, hmp, _⟩ := hS.h.h.m
    have hq := hS.h.h.q
    unfold QB at hq
    have hoc : ∀ (z : Nat) (o : Obj), W.heap[z]? = some o → o.isCells = false → z ≠ mb → z ∉ sbl q mb rb iv := by
      intro z o hz ho hne hm
      simp only [sbl, hbl, List.mem_cons, Option.mem_toList] at hm
      rcases hm with e | e | e | e
      · subst e; rw [hcr] at hz; cases hz; cases ho
      · subst e; rw [hq] at hz; cases hz; cases ho
      · exact hne e
      · obtain ⟨_, _, cur, hc⟩ := hS.h.h.i.blk e
        rw [hc] at hz; cases hz; cases ho
    have hin : ∀ z, z ∉ [rb, q, mb] → (∀ g, iv.ownBlock = some g → g ≠ z) → z ∉ sbl q mb rb iv := by
      intro z h1 h2 hm
      simp only [sbl, hbl, List.mem_cons, Option.mem_toList] at hm
      simp at h1
      rcases hm with e | e | e | e
      · exact h1.1 e
      · exact h1.2.1 e
      · exact h1.2.2 e
      · exact h2 z e rfl
    have hge : ∀ z ∈ sbl q mb rb iv, C ≤ z := by
      intro z hm
      simp only [sbl, hbl, List.mem_cons, Option.mem_toList] at hm
      have := hS.cb
      rcases hm with e | e | e | e
      · omega
      · omega
      · omega
      · exact (hS.h.h.i.blk e).1
    have hpn : p ∉ sbl q mb rb iv := by
      simp only [sbl, List.mem_cons, not_or]
      exact ⟨s6, s2⟩
    obtain ⟨⟨p1, p2, p3, p4, p8⟩, ⟨p5, p6, p7⟩, ⟨l1, l2, l3, l4, l5⟩⟩ := HSEP.out
    have hiv := HRG.out.i
    have hbxn : bx ∉ sbl q mb rb iv := hin bx p1 (fun g e => (hiv g e).1)
    have hXX : x.1 = (x.1.1, aft r k) := Prod.ext rfl HXE.out
    rw [HXE.out] at hRC
    obtain ⟨hDJ, hKv⟩ := relax HVG.out HRG.out.j HRG.out.k HK.out hRC
    have hvn : v < n := by omega
    refine ⟨⟨hRC.on.size, fun z o hz ho hc => (hRC.on.block z (Array.getElem?_eq_some_iff.1 ho).1 (hoc z o ho hc (by omega))).trans ho⟩, fun hI => ?_, ⟨iv', K', L', D', ?_⟩, HB.out.trans (hRC.on.below HCW.out hge), fun E hE => ?_⟩
    · refine hI.on hRC.on (hin bg p2 (fun g e => (hiv g e).2.1)) (hin bv p3 (fun g e => (hiv g e).2.2.1)) (hin bs p4 (fun g e => (hiv g e).2.2.2.1)) hpn (fun hm => by have := hge _ hm; omega) (fun hf b o e hm => by have := hge _ hm; have := p6 hf b o e; omega) (fun hf b o e hm => by have := hge _ hm; have := p7 hf b o e; omega) ?_ ?_
      · rw [← hKv]; exact hRC.s.k.c1 hvn
      · rw [← hKv]; exact hRC.s.k.c2 hvn
    · refine ⟨hRC.s, ?_, hKv, fun g e => ?_, ?_, hRC.on.cell hbxn HRG.out.x⟩
      · rw [List.map_append, List.map_cons, List.map_nil, hXX]
        exact hDJ
      · rcases hRC.b g e with q1 | q1
        · exact hiv g q1
        · have := HB.out.size
          refine ⟨?_, ?_, ?_, ?_, ?_⟩ <;> omega
      · obtain ⟨ty, hb⟩ := HRG.out.g
        exact ⟨ty, (hRC.on.block g5 (Array.getElem?_eq_some_iff.1 hb).1 (hin g5 p8 (fun g e => (hiv g e).2.2.2.2))).trans hb⟩
    · have hEd := HD.out E hE
      exact (hRC.on.block E (Array.getElem?_eq_some_iff.1 hEd).1 (hoc E _ hEd rfl (fun e => by rw [e, hmp] at hEd; cases hEd))).trans hEd
end Go.Proofs.Yticooljejlkbfaa
