import Derived.Test.YticooljejlkbfaaPV
namespace Go.Proofs.Yticooljejlkbfaa
open Go.RowKit Go.Sort Go.Maps Go.Shelf
set_option linter.unusedVariables false
set_option maxRecDepth 1000000

theorem wp_of_nq {P : Program} {c : Code} {Q : Exit → Act → World → Prop} {a : Act} {w : World} (h : c.wp P (NQ (fun a w => Q .normal a w)) a w) : c.wp P Q a w := wp_mono h (fun e a w h => by cases e <;> first | exact h | exact h.elim)
/-- the search while it spreads -/
structure SPX (wC : World) (sb p q mb rb n : Nat) (a0 : Option Addr) (m0 c0 : Nat) (a1 : Option Addr) (m1 c1 : Nat) (a2 : Option Addr) (m2 c2 : Nat) (a3 : Option Addr) (m3 c3 : Nat) (a4 : Option Addr) (m4 c4 : Nat) (a5 : Option Addr) (m5 c5 : Nat) (a6 : Option Addr) (m6 c6 : Nat) (t : Int) (b : Rk) (G : Gr) (s0 : Nat) (w0 : Int) (bx g5 : Nat) (W : World) (Ds : List Nat) (sv iv : Value) (S : List Nat) (K : Nat → Rk) (L : List Nat) (D : DM) : Prop where
  s : SR wC.heap.size W sb p q mb rb n [.slice a0 m0 c0, .slice a1 m1 c1, .slice a2 m2 c2, .slice a3 m3 c3, .slice a4 m4 c4, .slice a5 m5 c5, .slice a6 m6 c6] t b iv sv K L D S
  x : W.cell? ⟨bx, 0, none⟩ = some (.pointer (some ⟨p, 0, none⟩))
  g : Blk W g5 (List.toArray [.slice a0 m0 c0, .slice a1 m1 c1, .slice a2 m2 c2, .slice a3 m3 c3, .slice a4 m4 c4, .slice a5 m5 c5, .slice a6 m6 c6])
  i : ∀ g, iv.ownBlock = some g → g ≠ bx ∧ g ≠ g5
  v : ∀ g, sv.ownBlock = some g → g ≠ bx ∧ g ≠ g5
  m : ∀ E ∈ Ds, W.heap[E]? = some (.deferred (some []))
  nd : Ds.Nodup
  ml : ∀ E ∈ Ds, wC.heap.size ≤ E
  nx : Nx wC W
  ne : bx ∉ [rb, q, mb] ∧ g5 ∉ [rb, q, mb] ∧ bx ≠ p ∧ g5 ≠ p
theorem SPX.next {wC : World} {sb p q mb rb n : Nat} {a0 : Option Addr} {m0 c0 : Nat} {a1 : Option Addr} {m1 c1 : Nat} {a2 : Option Addr} {m2 c2 : Nat} {a3 : Option Addr} {m3 c3 : Nat} {a4 : Option Addr} {m4 c4 : Nat} {a5 : Option Addr} {m5 c5 : Nat} {a6 : Option Addr} {m6 c6 : Nat} {t : Int} {b : Rk} {G : Gr} {s0 : Nat} {w0 : Int} {bx g5 : Nat} {W W' : World} {Ds : List Nat} {sv iv : Value} {S : List Nat} {K : Nat → Rk} {L : List Nat} {D : DM} (h : SPX wC sb p q mb rb n a0 m0 c0 a1 m1 c1 a2 m2 c2 a3 m3 c3 a4 m4 c4 a5 m5 c5 a6 m6 c6 t b G s0 w0 bx g5 W Ds sv iv S K L D) (k : Nx W W') : SPX wC sb p q mb rb n a0 m0 c0 a1 m1 c1 a2 m2 c2 a3 m3 c3 a4 m4 c4 a5 m5 c5 a6 m6 c6 t b G s0 w0 bx g5 W' Ds sv iv S K L D :=
  ⟨h.s.next k, cellq k h.x, h.g.next k, h.i, h.v, fun E hE => (k.block E (Array.getElem?_eq_some_iff.1 (h.m E hE)).1).trans (h.m E hE), h.nd, h.ml, h.nx.trans k, h.ne⟩
/-- best or settled has turned -/
theorem SPX.turn {wC : World} {sb p q mb rb n : Nat} {a0 : Option Addr} {m0 c0 : Nat} {a1 : Option Addr} {m1 c1 : Nat} {a2 : Option Addr} {m2 c2 : Nat} {a3 : Option Addr} {m3 c3 : Nat} {a4 : Option Addr} {m4 c4 : Nat} {a5 : Option Addr} {m5 c5 : Nat} {a6 : Option Addr} {m6 c6 : Nat} {t : Int} {b b' : Rk} {G : Gr} {s0 : Nat} {w0 : Int} {bx g5 : Nat} {W W' : World} {Ds : List Nat} {sv sv' iv : Value} {S S' : List Nat} {K : Nat → Rk} {L : List Nat} {D : DM} (h : SPX wC sb p q mb rb n a0 m0 c0 a1 m1 c1 a2 m2 c2 a3 m3 c3 a4 m4 c4 a5 m5 c5 a6 m6 c6 t b G s0 w0 bx g5 W Ds sv iv S K L D) (hs : SB W' p [.slice a0 m0 c0, .slice a1 m1 c1, .slice a2 m2 c2, .slice a3 m3 c3, .slice a4 m4 c4, .slice a5 m5 c5, .slice a6 m6 c6] t rb n q sv' b') (hd : OwnI wC.heap.size W' sv' (ints S')) (ho : OnS (p :: sv.ownBlock.toList) W W') (hb : sv'.ownBlock = sv.ownBlock ∨ sv'.ownBlock = some (W.heap.size + 1)) : SPX wC sb p q mb rb n a0 m0 c0 a1 m1 c1 a2 m2 c2 a3 m3 c3 a4 m4 c4 a5 m5 c5 a6 m6 c6 t b' G s0 w0 bx g5 W' Ds sv' iv S' K L D := by
  obtain ⟨⟨s1, s2, s3⟩, ⟨s4, s5, s6⟩, s7⟩ := h.s.sep
  have nin : ∀ z, z ≠ p → (∀ g, sv.ownBlock = some g → g ≠ z) → z ∉ p :: sv.ownBlock.toList := fun z h1 h2 hm => by
    rcases List.mem_cons.1 hm with e | e
    · exact h1 e
    · exact h2 z (by simpa using e) rfl
  have kq : ∀ z, z ∈ hbl q mb iv → z ∉ p :: sv.ownBlock.toList := fun z hz => nin z (fun e => s2 (e ▸ hz)) (fun g e e2 => (s7 g e).2.2.2 (e2 ▸ hz))
  obtain ⟨es, clock, hmp, hrest⟩ := h.s.h.h.m
  obtain ⟨cr, hcr, _⟩ := h.s.k
  have hql : q < W.heap.size := (Array.getElem?_eq_some_iff.1 h.s.h.h.q).1
  refine ⟨⟨(ho.block sb (Array.getElem?_eq_some_iff.1 h.s.x).1 (nin sb s4 (fun g e => (s7 g e).1))).trans h.s.x, hs, h.s.k.kept (ho.block rb h.s.k.lt (nin rb (fun e => s6 e.symm) (fun g e => (s7 g e).2.2.1))), ⟨⟨(ho.block q hql (kq q (by simp [hbl]))).trans h.s.h.h.q, h.s.h.h.i.kept (fun g e => ho.block g (h.s.h.h.i.blk e).2.1 (kq g (hbl_own e))), ⟨es, clock, (ho.block mb (Array.getElem?_eq_some_iff.1 hmp).1 (kq mb (by simp [hbl]))).trans hmp, hrest⟩⟩, h.s.h.o, h.s.h.j, h.s.h.p, h.s.h.v, h.s.h.s⟩, hd, fun g e e' => ?_, h.s.cb⟩, ho.cell (nin bx h.ne.2.2.1 (fun g e => (h.v g e).1)) h.x, ?_, h.i, fun g e => ?_, fun E hE => ?_, h.nd, h.ml, ?_, h.ne⟩
  · rcases hb with q1 | q1
    · exact h.s.ap g (by rw [← q1]; exact e) e'
    · rw [q1] at e
      have := Option.some.inj e
      have := (h.s.h.h.i.blk e').2.1
      omega
  · obtain ⟨ty, hg⟩ := h.g
    exact ⟨ty, (ho.block g5 (Array.getElem?_eq_some_iff.1 hg).1 (nin g5 h.ne.2.2.2 (fun g e => (h.v g e).2))).trans hg⟩
  · rcases hb with q1 | q1
    · exact h.v g (by rw [← q1]; exact e)
    · rw [q1] at e
      have := Option.some.inj e
      have l1 := cell_lt h.x
      obtain ⟨ty, hg⟩ := h.g
      have l2 := (Array.getElem?_eq_some_iff.1 hg).1
      exact ⟨by omega, by omega⟩
  · have hE2 := h.m E hE
    refine (ho.block E (Array.getElem?_eq_some_iff.1 hE2).1 (nin E (fun e => ?_) (fun g e e2 => ?_))).trans hE2
    · have := h.s.s.2
      rw [← e, hE2] at this
      cases this
    · obtain ⟨_, _, cur, hc⟩ := h.s.d.blk e
      rw [e2, hE2] at hc
      cases hc
  · refine Below.trans h.nx (ho.below h.nx.size (fun z hz => ?_))
    rcases List.mem_cons.1 hz with e | e
    · rw [e]; exact h.s.cb.2.1
    · exact (h.s.d.blk (by simpa using e)).1
/-- the heap has given its least -/
theorem SPX.taken {wC : World} {sb p q mb rb n : Nat} {a0 : Option Addr} {m0 c0 : Nat} {a1 : Option Addr} {m1 c1 : Nat} {a2 : Option Addr} {m2 c2 : Nat} {a3 : Option Addr} {m3 c3 : Nat} {a4 : Option Addr} {m4 c4 : Nat} {a5 : Option Addr} {m5 c5 : Nat} {a6 : Option Addr} {m6 c6 : Nat} {t : Int} {b : Rk} {G : Gr} {s0 : Nat} {w0 : Int} {bx g5 : Nat} {W W' : World} {Ds : List Nat} {sv iv iv' : Value} {S : List Nat} {K : Nat → Rk} {L L' : List Nat} {D D' : DM} (h : SPX wC sb p q mb rb n a0 m0 c0 a1 m1 c1 a2 m2 c2 a3 m3 c3 a4 m4 c4 a5 m5 c5 a6 m6 c6 t b G s0 w0 bx g5 W Ds sv iv S K L D) (k : TK wC.heap.size W W' q sb mb iv K n L iv' L' D') : SPX wC sb p q mb rb n a0 m0 c0 a1 m1 c1 a2 m2 c2 a3 m3 c3 a4 m4 c4 a5 m5 c5 a6 m6 c6 t b G s0 w0 bx g5 W' Ds sv iv' S K L' D' := by
  obtain ⟨⟨s1, s2, s3⟩, ⟨s4, s5, s6⟩, s7⟩ := h.s.sep
  have ho := k.on
  have nin : ∀ z, z ∉ [rb, q, mb] → (∀ g, iv.ownBlock = some g → g ≠ z) → z ∉ hbl q mb iv := fun z h1 h2 hm => by
    simp only [hbl, List.mem_cons, Option.mem_toList] at hm
    simp at h1
    rcases hm with e | e | e
    · exact h1.2.1 e
    · exact h1.2.2 e
    · exact h2 z e rfl
  refine ⟨⟨(ho.block sb (Array.getElem?_eq_some_iff.1 h.s.x).1 s1).trans h.s.x, h.s.s.kept (ho.block p h.s.s.lt s2), h.s.k.kept (ho.block rb h.s.k.lt s3), k.h, h.s.d.kept (fun g e => ho.block g (h.s.d.blk e).2.1 (s7 g e).2.2.2), fun g e e' => h.s.ap g e (by rw [← k.b]; exact e'), h.s.cb⟩, ho.cell (nin bx h.ne.1 (fun g e => (h.i g e).1)) h.x, ?_, fun g e => h.i g (by rw [← k.b]; exact e), h.v, fun E hE => ?_, h.nd, h.ml, ?_, h.ne⟩
  · obtain ⟨ty, hg⟩ := h.g
    exact ⟨ty, (ho.block g5 (Array.getElem?_eq_some_iff.1 hg).1 (nin g5 h.ne.2.1 (fun g e => (h.i g e).2))).trans hg⟩
  · have hE2 := h.m E hE
    refine (ho.block E (Array.getElem?_eq_some_iff.1 hE2).1 (fun hm => ?_)).trans hE2
    simp only [hbl, List.mem_cons, Option.mem_toList] at hm
    rcases hm with e | e | e
    · have := h.s.h.h.q
      unfold QB at this
      rw [← e, hE2] at this
      cases this
    · obtain ⟨es, clock, hmp, _⟩ := h.s.h.h.m
      rw [← e, hE2] at hmp
      cases hmp
    · obtain ⟨_, _, cur, hc⟩ := h.s.h.h.i.blk e
      rw [hE2] at hc
      cases hc
  · refine Below.trans h.nx (ho.below h.nx.size (fun z hz => ?_))
    simp only [hbl, List.mem_cons, Option.mem_toList] at hz
    have := h.s.cb
    rcases hz with e | e | e
    · omega
    · omega
    · exact (h.s.h.h.i.blk e).1
/-- the least has been taken, or there is none -/
def SPL (wC : World) (sb p q mb rb n : Nat) (a0 : Option Addr) (m0 c0 : Nat) (a1 : Option Addr) (m1 c1 : Nat) (a2 : Option Addr) (m2 c2 : Nat) (a3 : Option Addr) (m3 c3 : Nat) (a4 : Option Addr) (m4 c4 : Nat) (a5 : Option Addr) (m5 c5 : Nat) (a6 : Option Addr) (m6 c6 : Nat) (t : Int) (b : Rk) (G : Gr) (s0 : Nat) (w0 : Int) (bx g5 : Nat) (x6 x7 : Value) (Ds : List Nat) (W : World) : Prop :=
  ∃ sv iv S K L D, SPX wC sb p q mb rb n a0 m0 c0 a1 m1 c1 a2 m2 c2 a3 m3 c3 a4 m4 c4 a5 m5 c5 a6 m6 c6 t b G s0 w0 bx g5 W Ds sv iv S K L D ∧ ((x7 = .bool false ∧ x6 = .int .i64 0 ∧ DJ (eoG G) (arcsG G) s0 w0 t (arcsG G) K S []) ∨ (∃ v0 : Nat, x7 = .bool true ∧ x6 = .int .i64 (v0 : Int) ∧ v0 < n ∧ DJ (eoG G) (arcsG G) s0 w0 t (arcsG G) K S (v0 :: L) ∧ ∀ y ∈ v0 :: L, ¬ rlt (K y) (K v0)))
def SPW (wC : World) (sb p q mb rb n : Nat) (a0 : Option Addr) (m0 c0 : Nat) (a1 : Option Addr) (m1 c1 : Nat) (a2 : Option Addr) (m2 c2 : Nat) (a3 : Option Addr) (m3 c3 : Nat) (a4 : Option Addr) (m4 c4 : Nat) (a5 : Option Addr) (m5 c5 : Nat) (a6 : Option Addr) (m6 c6 : Nat) (t : Int) (b : Rk) (G : Gr) (s0 : Nat) (w0 : Int) (bx g5 : Nat) (a : Act) (W : World) : Prop := ∃ (x6 x7 : Value) (Ds : List Nat) (u0 u1 u3 u4 u8 u9 u10 u11 u12 u13 u14 u15 u16 u17 u18 u19 u20 u21 u22 u23 u24 u25 u26 u27 u28 u29 u30 u31 u32 u33 u34 u35 u36 u37 u38 u39 u40 u41 u42 u43 u44 u45 u46 u47 u48 u49 u50 u51 u52 u53 u54 u55 u56 u57 u58 u59 u60 u61 u62 u63 u64 u65 u66 u67 u68 u69 u70 u71 u72 u73 u74 u75 u76 u77 u78 u79 u80 u81 u82 : Value), SPL wC sb p q mb rb n a0 m0 c0 a1 m1 c1 a2 m2 c2 a3 m3 c3 a4 m4 c4 a5 m5 c5 a6 m6 c6 t b G s0 w0 bx g5 x6 x7 Ds W ∧ a = ⟨List.toArray (u0 :: u1 :: .pointer (some ⟨bx, 0, none⟩) :: u3 :: u4 :: .pointer (some ⟨g5, 0, none⟩) :: x6 :: x7 :: u8 :: u9 :: u10 :: u11 :: u12 :: u13 :: u14 :: u15 :: u16 :: u17 :: u18 :: u19 :: u20 :: u21 :: u22 :: u23 :: u24 :: u25 :: u26 :: u27 :: u28 :: u29 :: u30 :: u31 :: u32 :: u33 :: u34 :: u35 :: u36 :: u37 :: u38 :: u39 :: u40 :: u41 :: u42 :: u43 :: u44 :: u45 :: u46 :: u47 :: u48 :: u49 :: u50 :: u51 :: u52 :: u53 :: u54 :: u55 :: u56 :: u57 :: u58 :: u59 :: u60 :: u61 :: u62 :: u63 :: u64 :: u65 :: u66 :: u67 :: u68 :: u69 :: u70 :: u71 :: u72 :: u73 :: u74 :: u75 :: u76 :: u77 :: u78 :: u79 :: u80 :: u81 :: u82 :: []), Ds.map mark⟩
def lenAt (n p : Nat) (W : World) : Nat := match W.cell? ⟨p, 10, none⟩ with
  | some (.slice _ k _) => n + 1 - k
  | _ => 0
theorem lenAt_of {C : Nat} {W : World} {p : Nat} {gv : List Value} {t : Int} {rb n q : Nat} {sv : Value} {b : Rk} {S : List Nat} (h : SB W p gv t rb n q sv b) (hd : OwnI C W sv (ints S)) : lenAt n p W = n + 1 - S.length := by
  obtain ⟨a, c, e⟩ := hd.slice
  have hc := h.cell.2.2.2.1
  unfold lenAt
  rw [hc, e, ints_len]
/-- a target is found -/
def FND (wC : World) (sb p q mb rb n : Nat) (a0 : Option Addr) (m0 c0 : Nat) (a1 : Option Addr) (m1 c1 : Nat) (a2 : Option Addr) (m2 c2 : Nat) (a3 : Option Addr) (m3 c3 : Nat) (a4 : Option Addr) (m4 c4 : Nat) (a5 : Option Addr) (m5 c5 : Nat) (a6 : Option Addr) (m6 c6 : Nat) (t : Int) (b : Rk) (G : Gr) (s0 : Nat) (w0 : Int) (bx g5 : Nat) (W : World) : Prop := ∃ sv iv S K L D Ds v0, SPX wC sb p q mb rb n a0 m0 c0 a1 m1 c1 a2 m2 c2 a3 m3 c3 a4 m4 c4 a5 m5 c5 a6 m6 c6 t (K v0) G s0 w0 bx g5 W Ds sv iv S K L D ∧ v0 < n ∧ DJ (eoG G) (arcsG G) s0 w0 t (arcsG G) K S (v0 :: L) ∧ (∀ y ∈ v0 :: L, ¬ rlt (K y) (K v0)) ∧ eoG G v0 = t

set_option maxHeartbeats 16000000 in
theorem spread_loop (wC : World) (sb p q mb rb n : Nat) (a0 : Option Addr) (m0 c0 : Nat) (a1 : Option Addr) (m1 c1 : Nat) (a2 : Option Addr) (m2 c2 : Nat) (a3 : Option Addr) (m3 c3 : Nat) (a4 : Option Addr) (m4 c4 : Nat) (a5 : Option Addr) (m5 c5 : Nat) (a6 : Option Addr) (m6 c6 : Nat) (t : Int) (b : Rk) (G : Gr) (s0 : Nat) (w0 : Int) (bx g5 : Nat) (B : Nat) (HVG : Hid (VG G)) (HH : Hid (HG B wC (.slice a0 m0 c0) (.slice a1 m1 c1) (.slice a2 m2 c2) (.slice a3 m3 c3) (.slice a4 m4 c4) (.slice a5 m5 c5) (.slice a6 m6 c6) G)) (hnG : G.eo.length = n) (hn : n ≤ 6000) (hw0 : 0 ≤ w0 ∧ w0 ≤ 1048576) (hs0 : s0 < G.eo.length) (Q : Exit → Act → World → Prop)
    (hexit : ∀ (x6 x7 : Value) (Ds : List Nat) (u0 u1 u3 u4 u8 u9 u10 u11 u12 u13 u14 u15 u16 u17 u18 u19 u20 u21 u22 u23 u24 u25 u26 u27 u28 u29 u30 u31 u32 u33 u34 u35 u36 u37 u38 u39 u40 u41 u42 u43 u44 u45 u46 u47 u48 u49 u50 u51 u52 u53 u54 u55 u56 u57 u58 u59 u60 u61 u62 u63 u64 u65 u66 u67 u68 u69 u70 u71 u72 u73 u74 u75 u76 u77 u78 u79 u80 u81 u82 : Value) (W : World) (sv iv : Value) (S : List Nat) (K : Nat → Rk) (L : List Nat) (D : DM), SPX wC sb p q mb rb n a0 m0 c0 a1 m1 c1 a2 m2 c2 a3 m3 c3 a4 m4 c4 a5 m5 c5 a6 m6 c6 t b G s0 w0 bx g5 W Ds sv iv S K L D → DJ (eoG G) (arcsG G) s0 w0 t (arcsG G) K S [] → Q (.exit 0) ⟨List.toArray (u0 :: u1 :: .pointer (some ⟨bx, 0, none⟩) :: u3 :: u4 :: .pointer (some ⟨g5, 0, none⟩) :: x6 :: x7 :: u8 :: u9 :: u10 :: u11 :: u12 :: u13 :: u14 :: u15 :: u16 :: u17 :: u18 :: u19 :: u20 :: u21 :: u22 :: u23 :: u24 :: u25 :: u26 :: u27 :: u28 :: u29 :: u30 :: u31 :: u32 :: u33 :: u34 :: u35 :: u36 :: u37 :: u38 :: u39 :: u40 :: u41 :: u42 :: u43 :: u44 :: u45 :: u46 :: u47 :: u48 :: u49 :: u50 :: u51 :: u52 :: u53 :: u54 :: u55 :: u56 :: u57 :: u58 :: u59 :: u60 :: u61 :: u62 :: u63 :: u64 :: u65 :: u66 :: u67 :: u68 :: u69 :: u70 :: u71 :: u72 :: u73 :: u74 :: u75 :: u76 :: u77 :: u78 :: u79 :: u80 :: u81 :: u82 :: []), Ds.map mark⟩ W)
    (hret : ∀ (x6 x7 : Value) (Ds : List Nat) (u0 u1 u3 u8 u9 u10 u11 u12 u13 u14 u15 u16 u17 u18 u19 u20 u21 u22 u23 u24 u25 u26 u27 u28 u29 u30 u31 u32 u33 u34 u35 u36 u37 u38 u39 u40 u41 u42 u43 u44 u45 u46 u47 u48 u49 u50 u51 u52 u53 u54 u55 u56 u57 u58 u59 u60 u61 u62 u63 u64 u65 u66 u67 u68 u69 u70 u71 u72 u73 u74 u75 u76 u77 u78 u79 u80 u81 u82 : Value) (W : World) (sv iv : Value) (S : List Nat) (K : Nat → Rk) (L : List Nat) (D : DM) (v0 : Nat), SPX wC sb p q mb rb n a0 m0 c0 a1 m1 c1 a2 m2 c2 a3 m3 c3 a4 m4 c4 a5 m5 c5 a6 m6 c6 t (K v0) G s0 w0 bx g5 W Ds sv iv S K L D → v0 < n → DJ (eoG G) (arcsG G) s0 w0 t (arcsG G) K S (v0 :: L) → (∀ y ∈ v0 :: L, ¬ rlt (K y) (K v0)) → eoG G v0 = t → Q .ret ⟨List.toArray (u0 :: u1 :: .pointer (some ⟨bx, 0, none⟩) :: u3 :: .bool true :: .pointer (some ⟨g5, 0, none⟩) :: x6 :: x7 :: u8 :: u9 :: u10 :: u11 :: u12 :: u13 :: u14 :: u15 :: u16 :: u17 :: u18 :: u19 :: u20 :: u21 :: u22 :: u23 :: u24 :: u25 :: u26 :: u27 :: u28 :: u29 :: u30 :: u31 :: u32 :: u33 :: u34 :: u35 :: u36 :: u37 :: u38 :: u39 :: u40 :: u41 :: u42 :: u43 :: u44 :: u45 :: u46 :: u47 :: u48 :: u49 :: u50 :: u51 :: u52 :: u53 :: u54 :: u55 :: u56 :: u57 :: u58 :: u59 :: u60 :: u61 :: u62 :: u63 :: u64 :: u65 :: u66 :: u67 :: u68 :: u69 :: u70 :: u71 :: u72 :: u73 :: u74 :: u75 :: u76 :: u77 :: u78 :: u79 :: u80 :: u81 :: u82 :: []), Ds.map mark⟩ W)
    (a : Act) (W : World) (h0 : SPW wC sb p q mb rb n a0 m0 c0 a1 m1 c1 a2 m2 c2 a3 m3 c3 a4 m4 c4 a5 m5 c5 a6 m6 c6 t b G s0 w0 bx g5 a W) : Code.wp Try.prog (Code.loop (((((Try.f38.body.map loopsOf).getD [])[0]?).getD .skip))) Q a W := by
  refine wp_loop (SPW wC sb p q mb rb n a0 m0 c0 a1 m1 c1 a2 m2 c2 a3 m3 c3 a4 m4 c4 a5 m5 c5 a6 m6 c6 t b G s0 w0 bx g5) (fun _ W => lenAt n p W) h0 (fun a W hI => ?_)
  clear h0
  have HEX := hexit
  have HRET := hret
  clear hexit hret
  conv => arg 2; whnf
  obtain ⟨x6, hI⟩ := hI
  obtain ⟨x7, hI⟩ := hI
  obtain ⟨Ds, hI⟩ := hI
  obtain ⟨u0, hI⟩ := hI
  obtain ⟨u1, hI⟩ := hI
  obtain ⟨u3, hI⟩ := hI
  obtain ⟨u4, hI⟩ := hI
  obtain ⟨u8, hI⟩ := hI
  obtain ⟨u9, hI⟩ := hI
  obtain ⟨u10, hI⟩ := hI
  obtain ⟨u11, hI⟩ := hI
  obtain ⟨u12, hI⟩ := hI
  obtain ⟨u13, hI⟩ := hI
  obtain ⟨u14, hI⟩ := hI
  obtain ⟨u15, hI⟩ := hI
  obtain ⟨u16, hI⟩ := hI
  obtain ⟨u17, hI⟩ := hI
  obtain ⟨u18, hI⟩ := hI
  obtain ⟨u19, hI⟩ := hI
  obtain ⟨u20, hI⟩ := hI
  obtain ⟨u21, hI⟩ := hI
  obtain ⟨u22, hI⟩ := hI
  obtain ⟨u23, hI⟩ := hI
  obtain ⟨u24, hI⟩ := hI
  obtain ⟨u25, hI⟩ := hI
  obtain ⟨u26, hI⟩ := hI
  obtain ⟨u27, hI⟩ := hI
  obtain ⟨u28, hI⟩ := hI
  obtain ⟨u29, hI⟩ := hI
  obtain ⟨u30, hI⟩ := hI
  obtain ⟨u31, hI⟩ := hI
  obtain ⟨u32, hI⟩ := hI
  obtain ⟨u33, hI⟩ := hI
  obtain ⟨u34, hI⟩ := hI
  obtain ⟨u35, hI⟩ := hI
  obtain ⟨u36, hI⟩ := hI
  obtain ⟨u37, hI⟩ := hI
  obtain ⟨u38, hI⟩ := hI
  obtain ⟨u39, hI⟩ := hI
  obtain ⟨u40, hI⟩ := hI
  obtain ⟨u41, hI⟩ := hI
  obtain ⟨u42, hI⟩ := hI
  obtain ⟨u43, hI⟩ := hI
  obtain ⟨u44, hI⟩ := hI
  obtain ⟨u45, hI⟩ := hI
  obtain ⟨u46, hI⟩ := hI
  obtain ⟨u47, hI⟩ := hI
  obtain ⟨u48, hI⟩ := hI
  obtain ⟨u49, hI⟩ := hI
  obtain ⟨u50, hI⟩ := hI
  obtain ⟨u51, hI⟩ := hI
  obtain ⟨u52, hI⟩ := hI
  obtain ⟨u53, hI⟩ := hI
  obtain ⟨u54, hI⟩ := hI
  obtain ⟨u55, hI⟩ := hI
  obtain ⟨u56, hI⟩ := hI
  obtain ⟨u57, hI⟩ := hI
  obtain ⟨u58, hI⟩ := hI
  obtain ⟨u59, hI⟩ := hI
  obtain ⟨u60, hI⟩ := hI
  obtain ⟨u61, hI⟩ := hI
  obtain ⟨u62, hI⟩ := hI
  obtain ⟨u63, hI⟩ := hI
  obtain ⟨u64, hI⟩ := hI
  obtain ⟨u65, hI⟩ := hI
  obtain ⟨u66, hI⟩ := hI
  obtain ⟨u67, hI⟩ := hI
  obtain ⟨u68, hI⟩ := hI
  obtain ⟨u69, hI⟩ := hI
  obtain ⟨u70, hI⟩ := hI
  obtain ⟨u71, hI⟩ := hI
  obtain ⟨u72, hI⟩ := hI
  obtain ⟨u73, hI⟩ := hI
  obtain ⟨u74, hI⟩ := hI
  obtain ⟨u75, hI⟩ := hI
  obtain ⟨u76, hI⟩ := hI
  obtain ⟨u77, hI⟩ := hI
  obtain ⟨u78, hI⟩ := hI
  obtain ⟨u79, hI⟩ := hI
  obtain ⟨u80, hI⟩ := hI
  obtain ⟨u81, hI⟩ := hI
  obtain ⟨u82, hI⟩ := hI
  obtain ⟨⟨sv, iv, S, K, L, D, hX, hc⟩, rfl⟩ := hI
  have HX : Hid (SPX wC sb p q mb rb n a0 m0 c0 a1 m1 c1 a2 m2 c2 a3 m3 c3 a4 m4 c4 a5 m5 c5 a6 m6 c6 t b G s0 w0 bx g5 W Ds sv iv S K L D) := hX
  clear hX
  rcases hc with ⟨rfl, rfl, hDJ⟩ | ⟨v0, rfl, rfl, hv0, hDJ, hle⟩
  · have HDJ : Hid (DJ (eoG G) (arcsG G) s0 w0 t (arcsG G) K S []) := hDJ
    have HE : Hid _ := HEX
    clear hDJ HEX HRET
    go_wp2
    exact HE.out _ _ _ _ _ _ _ _ _ _ _ _ _ _ _ _ _ _ _ _ _ _ _ _ _ _ _ _ _ _ _ _ _ _ _ _ _ _ _ _ _ _ _ _ _ _ _ _ _ _ _ _ _ _ _ _ _ _ _ _ _ _ _ _ _ _ _ _ _ _ _ _ _ _ _ _ _ _ _ _ _ _ _ _ _ _ _ _ _ HX.out HDJ.out
  have HDJ : Hid (DJ (eoG G) (arcsG G) s0 w0 t (arcsG G) K S (v0 :: L)) := hDJ
  have HLE : Hid (∀ y ∈ v0 :: L, ¬ rlt (K y) (K v0)) := hle
  clear hDJ hle
  obtain ⟨e0, b0, o0, ha0, hc0⟩ := (HH.out.next HX.out.nx).h0.row (by omega)
  subst ha0
  have k0 : W.cell? ⟨g5, 0, none⟩ = some (.slice (some ⟨b0, o0, none⟩) m0 c0) := HX.out.g.cell (i := 0) rfl
  have x0 : W.cell? ⟨b0, o0 + v0, none⟩ = some (.int .i64 (eoG G v0)) := hc0 v0 (by omega)
  have x1 := HX.out.x
  have p7 := HX.out.s.s.cell.1
  have hv0m : (v0 : Int) < m0 := by omega
  have hv06 : v0 ≤ 6000 := by omega
  clear e0 hc0
  have HEX2 : Hid _ := HEX
  have HRET2 : Hid _ := HRET
  clear HEX HRET
  by_cases he : eoG G v0 = t
  · have d1 : (eoG G v0 == t) = true := by simpa using he
    have HE : Hid (eoG G v0 = t) := he
    clear he
    generalize eoG G v0 = ev at d1 x0
    go_upto_region 6 with fail
    go_quiet (fail)
    have HX6 : Hid (SPX wC sb p q mb rb n (some ⟨b0, o0, none⟩) m0 c0 a1 m1 c1 a2 m2 c2 a3 m3 c3 a4 m4 c4 a5 m5 c5 a6 m6 c6 t b G s0 w0 bx g5 (W.drewN nq) Ds sv iv S K L D) := HX.out.next (nx_drewN _ _)
    clear k0 x0 x1 p7
    generalize W.drewN nq = W6 at *
    go_upto_region 7 with fail
    refine wp_of_nq (spread_r7 W6 p rb n q _ t b sv K v0 bx HX6.out.x HX6.out.s.s HX6.out.s.k hv0 HX6.out.ne.2.2.1 (fun e => HX6.out.s.sep.2.1.2.2 e.symm) _ _ _ _ _ _ _ _ _ _ _ _ _ _ _ _ _ _ _ _ _ _ _ _ _ _ _ _ _ _ _ _ _ _ _ _ _ _ _ _ _ _ _ _ _ _ _ _ _ _ _ _ _ _ _ _ _ _ _ _ _ _ _ _ _ _ _ _ _ _ _ _ _ _ _ _ _ _ _ _ _ _ _ ?_)
    intro y54 y55 y56 y57 y58 y59 y60 y61 y62 y63 W7 hS7 hO7
    have HX7 := HX6.out.turn hS7 (HX6.out.s.d.kept (fun g e => hO7.block g (HX6.out.s.d.blk e).2.1 (by simpa using (HX6.out.s.sep.2.2 g e).2.1))) (hO7.mono (by simp)) (Or.inl rfl)
    clear hS7 hO7 d1
    go_wp2
    exact HRET2.out _ _ _ _ _ _ _ _ _ _ _ _ _ _ _ _ _ _ _ _ _ _ _ _ _ _ _ _ _ _ _ _ _ _ _ _ _ _ _ _ _ _ _ _ _ _ _ _ _ _ _ _ _ _ _ _ _ _ _ _ _ _ _ _ _ _ _ _ _ _ _ _ _ _ _ _ _ _ _ _ _ _ _ _ _ _ _ _ _ HX7 hv0 HDJ.out HLE.out HE.out
  have d1 : (eoG G v0 == t) = false := by simpa using he
  have HNE : Hid (eoG G v0 ≠ t) := he
  clear he
  generalize eoG G v0 = ev at d1 x0
  go_upto_region 6 with fail
  go_quiet (fail)
  have HX6 : Hid (SPX wC sb p q mb rb n (some ⟨b0, o0, none⟩) m0 c0 a1 m1 c1 a2 m2 c2 a3 m3 c3 a4 m4 c4 a5 m5 c5 a6 m6 c6 t b G s0 w0 bx g5 (W.drewN nq) Ds sv iv S K L D) := HX.out.next (nx_drewN _ _)
  have HLW : Hid (lenAt n p W = n + 1 - S.length) := lenAt_of HX.out.s.s HX.out.s.d
  clear k0 x0 x1 p7
  generalize W.drewN nq = W6 at *
  have HSN : Hid (S.length + 1 ≤ n) := by
    have h1 := nodup_len n (S ++ [v0]) (by
      rw [List.nodup_append]
      refine ⟨HDJ.out.nds, by simp, fun x hx y hy e => ?_⟩
      simp at hy
      subst hy; subst e
      exact HDJ.out.dis _ hx (by simp)) (fun x hx => by
      rcases List.mem_append.1 hx with g | g
      · obtain ⟨E, c, hW, _⟩ := HDJ.out.real x ((HDJ.out.dom x).2 (Or.inl g))
        rw [← hnG]
        exact hW.bd hs0 (arcs_lt HVG.out)
      · simp at g; omega)
    unfold Hid
    simpa using h1
  go_upto_region 9 with fail
  refine wp_of_nq (spread_r9 wC.heap.size W6 p rb n q _ t b sv S v0 bx HX6.out.x HX6.out.s.s HX6.out.s.d (by have := HSN.out; omega) HX6.out.nx.size (fun g e => ⟨(HX6.out.s.sep.2.2 g e).2.1, (HX6.out.v g e).1⟩) HX6.out.ne.2.2.1 _ _ _ _ _ _ _ _ _ _ _ _ _ _ _ _ _ _ _ _ _ _ _ _ _ _ _ _ _ _ _ _ _ _ _ _ _ _ _ _ _ _ _ _ _ _ _ _ _ _ _ _ _ _ _ _ _ _ _ _ _ _ _ _ _ _ _ _ _ _ _ _ _ _ _ _ _ _ _ _ _ _ _ ?_)
  intro y64 y65 y66 y67 y68 y69 y70 y71 y72 y73 W9 sv9 hd9 hs9 hat9 ho9
  have HX9 : Hid (SPX wC sb p q mb rb n (some ⟨b0, o0, none⟩) m0 c0 a1 m1 c1 a2 m2 c2 a3 m3 c3 a4 m4 c4 a5 m5 c5 a6 m6 c6 t b G s0 w0 bx g5 W9 Ds sv9 iv (S ++ [v0]) K L D) := HX6.out.turn hs9 hd9 ho9 hat9
  clear hd9 hs9 hat9 ho9 d1
  have x9 := HX9.out.x
  go_wp2_with fail
  refine (onward_any p rb n q _ _ _ _ _ _ _ t sv9 b v0 _ (by exact HX9.out.s.s) (by intro x hx; simp at hx; rcases hx with rfl | rfl | rfl | rfl | rfl | rfl | rfl <;> exact ⟨_, _, _, rfl⟩)).mono ?_
  rintro e W10 ⟨bg, bv, bs, rfl, hOW, hls, hx10⟩
  have HX10 : Hid (SPX wC sb p q mb rb n (some ⟨b0, o0, none⟩) m0 c0 a1 m1 c1 a2 m2 c2 a3 m3 c3 a4 m4 c4 a5 m5 c5 a6 m6 c6 t b G s0 w0 bx g5 W10 Ds sv9 iv (S ++ [v0]) K L D) := HX9.out.next hx10
  obtain ⟨e2, b2, o2, ha2, hc2⟩ := HH.out.h2.row (by have := HVG.out.lf; omega)
  have hb2 : b2 < wC.heap.size := cell_lt (hc2 0 (by have := HVG.out.lf; omega))
  have e3 := HH.out.h3.len
  have e4 := HH.out.h4.len
  subst ha2
  have hvG : v0 < G.eo.length := by omega
  have hfl := fst_le HVG.out hvG
  have hft := (fst_eq HVG.out (show v0 + 1 ≤ G.eo.length by omega)).2
  have HR3 : Hid (∀ k, fst G v0 ≤ k → k < fst G (v0 + 1) → ∃ b o, a3 = some ⟨b, o, none⟩ ∧ b < wC.heap.size ∧ wC.cell? ⟨b, o + k, none⟩ = some (.int .i64 (iat G.tt k))) := fun k h1 h2 => by
    obtain ⟨_, b, o, ha, hc⟩ := HH.out.h3.row (by omega)
    exact ⟨b, o, ha, cell_lt (hc k (by omega)), hc k (by omega)⟩
  have HR4 : Hid (∀ k, fst G v0 ≤ k → k < fst G (v0 + 1) → ∃ b o, a4 = some ⟨b, o, none⟩ ∧ b < wC.heap.size ∧ wC.cell? ⟨b, o + k, none⟩ = some (.int .i64 (iat G.co k))) := fun k h1 h2 => by
    have := HVG.out.lc
    obtain ⟨_, b, o, ha, hc⟩ := HH.out.h4.row (by omega)
    exact ⟨b, o, ha, cell_lt (hc k (by omega)), hc k (by omega)⟩
  have HITC : Hid (ITC W10 bg bv bs p rb n v0 b2 o2 m2 c2 a3 m3 c3 a4 m4 c4 G (K v0)) := by
    refine ⟨hOW.g.cell (i := 2) rfl, hOW.g.cell (i := 3) rfl, hOW.g.cell (i := 4) rfl, hOW.v.cell (i := 0) rfl, hOW.s.cell (i := 0) rfl, HX10.out.s.s.cell.2.1, HX10.out.s.k.c1 hv0, HX10.out.s.k.c2 hv0, ?_, ?_, fun k h1 h2 => ?_, fun k h1 h2 => ?_⟩
    · rw [← (fst_eq HVG.out (show v0 ≤ G.eo.length by omega)).1]
      exact cellq HX10.out.nx (hc2 v0 (by have := HVG.out.lf; omega))
    · rw [← (fst_eq HVG.out (show v0 + 1 ≤ G.eo.length by omega)).1]
      exact cellq HX10.out.nx (hc2 (v0 + 1) (by have := HVG.out.lf; omega))
    · obtain ⟨b, o, ha, _, hc⟩ := HR3.out k h1 h2
      exact ⟨b, o, ha, cellq HX10.out.nx hc⟩
    · obtain ⟨b, o, ha, _, hc⟩ := HR4.out k h1 h2
      exact ⟨b, o, ha, cellq HX10.out.nx hc⟩
  have hv0S : v0 ∉ S := fun g => HDJ.out.dis v0 g (by simp)
  have hv0L := (List.nodup_cons.1 HDJ.out.ndo).1
  have HDJ2 : Hid (DJ (eoG G) (arcsG G) s0 w0 t (Apre G (K v0) v0 []) K (S ++ [v0]) L) := HDJ.out.settle (by simp) (List.nodup_cons.1 HDJ.out.ndo).2 (fun y => ⟨fun h => ⟨by simp [h], fun e => hv0L (by rw [← e]; exact h)⟩, fun h => by
      rcases List.mem_cons.1 h.1 with e | e
      · exact absurd e h.2
      · exact e⟩) HLE.out HNE.out (fun u hu x hx => by
      unfold Apre at hx
      rw [if_neg (fun e : u = v0 => hv0S (by rw [← e]; exact hu))] at hx
      exact hx) (by unfold Apre; rw [if_pos rfl, List.filter_eq_nil_iff]; simp)
  have HRB : Hid ((0 ≤ (K v0).1 ∧ (K v0).1 ≤ 100000000000) ∧ (0 ≤ (K v0).2 ∧ (K v0).2 ≤ 100000)) := by
    obtain ⟨E, c, hW, e⟩ := HDJ.out.real v0 ((HDJ.out.dom v0).2 (Or.inr (by simp)))
    have h1 := wk_cost HVG.out hw0 hW
    have h2 := HDJ.out.cn.2 v0 (by simp)
    have h3 := HSN.out
    rw [e] at h2 ⊢
    simp only at h2 ⊢
    unfold Hid
    omega
  obtain ⟨es, clock, hmp, _⟩ := HX10.out.s.h.h.m
  have hmb9 : mb < W9.heap.size := by
    obtain ⟨es, clock, hmp, _⟩ := HX9.out.s.h.h.m
    exact (Array.getElem?_eq_some_iff.1 hmp).1
  have hq9 : q < W9.heap.size := (Array.getElem?_eq_some_iff.1 HX9.out.s.h.h.q).1
  have hrb9 := HX9.out.s.k.lt
  have hbx9 := cell_lt HX9.out.x
  have hg59 : g5 < W9.heap.size := by
    obtain ⟨ty, hb⟩ := HX9.out.g
    exact (Array.getElem?_eq_some_iff.1 hb).1
  have hsz := hx10.size
  have hbg := hOW.g.lt
  have hbv := hOW.v.lt
  have hbs := hOW.s.lt
  have HRI : Hid (RI2 wC.heap.size W10 Ds sb p q mb rb n [.slice (some ⟨b0, o0, none⟩) m0 c0, .slice a1 m1 c1, .slice (some ⟨b2, o2, none⟩) m2 c2, .slice a3 m3 c3, .slice a4 m4 c4, .slice a5 m5 c5, .slice a6 m6 c6] t b sv9 G s0 w0 S v0 (K v0) bx bg bv bs g5 [] W10) := by
    refine ⟨⟨iv, K, L, D, HX10.out.s, HDJ2.out, rfl, fun g e => ?_, HX10.out.g, HX10.out.x⟩, Below.refl _ _, HX10.out.m⟩
    have h1 := (HX9.out.s.h.h.i.blk e).2.1
    have h2 := HX10.out.i g e
    exact ⟨h2.1, by omega, by omega, by omega, h2.2⟩
  have HSEP : Hid ((bx ∉ [rb, q, mb] ∧ bg ∉ [rb, q, mb] ∧ bv ∉ [rb, q, mb] ∧ bs ∉ [rb, q, mb] ∧ g5 ∉ [rb, q, mb]) ∧ (b2 < wC.heap.size ∧ (fst G v0 < fst G (v0 + 1) → ∀ b o, a3 = some ⟨b, o, none⟩ → b < wC.heap.size) ∧ (fst G v0 < fst G (v0 + 1) → ∀ b o, a4 = some ⟨b, o, none⟩ → b < wC.heap.size)) ∧ (bx < W10.heap.size ∧ bg < W10.heap.size ∧ bv < W10.heap.size ∧ bs < W10.heap.size ∧ g5 < W10.heap.size)) := by
    refine ⟨⟨HX10.out.ne.1, by simp; omega, by simp; omega, by simp; omega, HX10.out.ne.2.1⟩, ⟨hb2, fun hf b o e => ?_, fun hf b o e => ?_⟩, by omega, hbg, hbv, hbs, by omega⟩
    · obtain ⟨b', o', ha, hl, _⟩ := HR3.out (fst G v0) (Nat.le_refl _) hf
      rw [ha] at e
      simp only [Option.some.injEq, Addr.mk.injEq, and_true] at e
      omega
    · obtain ⟨b', o', ha, hl, _⟩ := HR4.out (fst G v0) (Nat.le_refl _) hf
      rw [ha] at e
      simp only [Option.some.injEq, Addr.mk.injEq, and_true] at e
      omega
  have hDl : ∀ E ∈ Ds, E < W10.heap.size := fun E hE => (Array.getElem?_eq_some_iff.1 (HX10.out.m E hE)).1
  clear hc2 hOW hv0S hv0L x9
  go_wp2
  refine spread_range wC.heap.size W10 Ds sb p q mb rb n _ t b sv9 G s0 w0 S v0 (K v0) bx bg bv bs g5 b2 o2 m2 c2 a3 m3 c3 a4 m4 c4 HVG hvG e2 e3 e4 hnG hn HRB.out.1 HRB.out.2 (by have := HX10.out.nx.size; omega) (by omega) hDl HSEP HITC HRI _ _ _ _ _ _ _ _ _ _ _ _ _ _ _ _ _ _ _ _ _ _ _ _ _ _ _ _ _ _ _ _ _ _ _ _ _ _ _ _ _ _ _ _ _ _ _ _ _ _ _ _ _ _ _ _ _ _ _ _ _ _ _ _ _ _ _ _ _ _ _ _ _ _ _ _ _ _ _ _ _ _ _ ?_
  intro E ys W11 hE hys hI hK
  obtain ⟨⟨iv2, K2, L2, D2, hRG⟩, hB, hm⟩ := hI
  have HX11 : Hid (SPX wC sb p q mb rb n (some ⟨b0, o0, none⟩) m0 c0 a1 m1 c1 (some ⟨b2, o2, none⟩) m2 c2 a3 m3 c3 a4 m4 c4 a5 m5 c5 a6 m6 c6 t b G s0 w0 bx g5 W11 (E :: Ds) sv9 iv2 (S ++ [v0]) K2 L2 D2) := by
    refine ⟨hRG.s, hRG.x, hRG.g, fun g e => ⟨(hRG.i g e).1, (hRG.i g e).2.2.2.2⟩, HX10.out.v, fun F hF => ?_, ?_, fun F hF => ?_, Below.trans HX10.out.nx hB, HX10.out.ne⟩
    · rcases List.mem_cons.1 hF with e | e
      · rw [e]; exact hK
      · exact hm F e
    · rw [List.nodup_cons]
      exact ⟨fun g => by have := hDl E g; omega, HX10.out.nd⟩
    · rcases List.mem_cons.1 hF with e | e
      · have := HX10.out.nx.size; omega
      · exact HX10.out.ml F e
  have HDJ3 : Hid (DJ (eoG G) (arcsG G) s0 w0 t (arcsG G) K2 (S ++ [v0]) L2) := hRG.j.arcs_to (fun u hu x hx => by rw [hys]; exact apre_all HVG.out hx)
  have x11 := HX11.out.x
  have p9 := HX11.out.s.s.cell.2.2.1
  clear hRG hB hm hys hK HITC HRI HSEP HR3 HR4 HDJ2 hDl
  by_cases hL : L2.length = 0
  · obtain rfl : L2 = [] := List.length_eq_zero_iff.1 hL
    clear hL
    go_wp2_with fail
    refine (take_no wC.heap.size q sb mb n iv2 K2 D2 _ (by exact HX11.out.s.h)).mono ?_
    rintro e W12 ⟨rfl, hx12⟩
    have HX12 := HX11.out.next hx12
    clear x11 p9
    go_wp2
    refine ⟨⟨_, _, E :: Ds, _, _, _, _, _, _, _, _, _, _, _, _, _, _, _, _, _, _, _, _, _, _, _, _, _, _, _, _, _, _, _, _, _, _, _, _, _, _, _, _, _, _, _, _, _, _, _, _, _, _, _, _, _, _, _, _, _, _, _, _, _, _, _, _, _, _, _, _, _, _, _, _, _, _, _, _, _, _, _, ⟨sv9, iv2, S ++ [v0], K2, [], D2, HX12, Or.inl ⟨rfl, rfl, HDJ3.out⟩⟩, rfl⟩, ?_⟩
    rw [HLW.out, lenAt_of HX12.s.s HX12.s.d, List.length_append, List.length_singleton]
    have := HSN.out
    omega
  · obtain ⟨zk, hLl⟩ : ∃ zk, L2.length = zk + 1 := ⟨L2.length - 1, by omega⟩
    have HLl : Hid (L2.length = zk + 1) := hLl
    clear hL hLl
    go_wp2_with fail
    refine (take_yes wC.heap.size q sb mb p rb n iv2 K2 L2 D2 zk _ (by exact HX11.out.s.h) HLl.out (by exact HX11.out.s.cm) hn (by exact HX11.out.s.sep.1)).mono ?_
    rintro e W12 ⟨iv3, L3, D3, rfl, hTK⟩
    have HX12 := HX11.out.taken hTK
    have hl0 : lat L2 0 ∈ L2 := lat_mem (by have := HLl.out; omega)
    have hmem : ∀ y, y ∈ lat L2 0 :: L3 ↔ y ∈ L2 := fun y => by
      rw [List.mem_cons, hTK.e]
      constructor
      · rintro (e | e)
        · rw [e]; exact hl0
        · exact e.1
      · intro h
        by_cases e : y = lat L2 0
        · exact Or.inl e
        · exact Or.inr ⟨h, e⟩
    have HDJ4 := HDJ3.out.perm (O' := lat L2 0 :: L3) (by
      rw [List.nodup_cons]
      exact ⟨fun g => ((hTK.e _).1 g).2 rfl, hTK.h.j.nodup⟩) hmem
    have hmin : ∀ y ∈ lat L2 0 :: L3, ¬ rlt (K2 y) (K2 (lat L2 0)) := fun y hy => by
      obtain ⟨i, hi, rfl⟩ := mem_lat.1 ((hmem y).1 hy)
      exact HX11.out.s.h.o.root i hi
    have hlt : lat L2 0 < n := HX11.out.s.h.v _ hl0
    clear x11 p9 hTK
    go_wp2
    refine ⟨⟨_, _, E :: Ds, _, _, _, _, _, _, _, _, _, _, _, _, _, _, _, _, _, _, _, _, _, _, _, _, _, _, _, _, _, _, _, _, _, _, _, _, _, _, _, _, _, _, _, _, _, _, _, _, _, _, _, _, _, _, _, _, _, _, _, _, _, _, _, _, _, _, _, _, _, _, _, _, _, _, _, _, _, _, _, ⟨sv9, iv3, S ++ [v0], K2, L3, D3, HX12, Or.inr ⟨lat L2 0, rfl, rfl, hlt, HDJ4, hmin⟩⟩, rfl⟩, ?_⟩
    rw [HLW.out, lenAt_of HX12.s.s HX12.s.d, List.length_append, List.length_singleton]
    have := HSN.out
    omega
end Go.Proofs.Yticooljejlkbfaa
