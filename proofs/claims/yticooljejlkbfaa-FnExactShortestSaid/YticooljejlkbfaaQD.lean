import Derived.Test.YticooljejlkbfaaQC
namespace Go.Proofs.Yticooljejlkbfaa
open Go.RowKit Go.Sort Go.Maps Go.Shelf
set_option linter.unusedVariables false
set_option maxRecDepth 1000000
attribute [local go_sem] Oper.semAt_some

/-- a row of numbers as a function, -1 beyond it -/
def nfR (N : List Int) (v : Nat) : Int := N.getD v (-1)
theorem nfR_at {N : List Int} {v : Nat} (h : v < N.length) : nfR N v = iat N v := by simp [nfR, iat_eq h, h]
theorem nfR_set (N : List Int) {v : Nat} (h : v < N.length) (z : Int) : nfR (N.set v z) v = z := by simp [nfR, h]
theorem nfR_set' (N : List Int) {v y : Nat} (h : y ≠ v) (z : Int) : nfR (N.set v z) y = nfR N y := by simp [nfR, List.getElem?_set_ne (Ne.symm h)]
theorem nfR_rep (n v : Nat) : nfR (List.replicate n (-1)) v = -1 := by
  unfold nfR
  simp only [List.getD_eq_getElem?_getD, List.getElem?_replicate]
  split <;> rfl
/-- the arcs of a vertex and what comes of them -/
theorem outK_arcs {G : Gr} {v : Nat} (hv : v < G.eo.length) (r : Rk) : outK G r v (fst G (v + 1)) = (arcsG G v).map (fun q => (q.1, aft r q.2)) := by
  unfold outK arcsG
  rw [if_pos hv, List.map_map]
  rfl
theorem outK_pre {G : Gr} {v k : Nat} (hv : v < G.eo.length) (r : Rk) (h1 : fst G v ≤ k) (h2 : k < fst G (v + 1)) : ∃ post, arcsG G v = (List.range' (fst G v) (k - fst G v)).map (fun j => ((iat G.tt j).toNat, iat G.co j)) ++ ((iat G.tt k).toNat, iat G.co k) :: post ∧ outK G r v k = ((List.range' (fst G v) (k - fst G v)).map (fun j => ((iat G.tt j).toNat, iat G.co j))).map (fun q => (q.1, aft r q.2)) := by
  refine ⟨(List.range' (k + 1) (fst G (v + 1) - (k + 1))).map (fun j => ((iat G.tt j).toNat, iat G.co j)), ?_, ?_⟩
  · unfold arcsG
    rw [if_pos hv, show fst G (v + 1) - fst G v = (k - fst G v) + ((fst G (v + 1) - (k + 1)) + 1) by omega, ← List.range'_append_1, List.map_append, List.range'_succ, List.map_cons, show fst G v + (k - fst G v) = k by omega]
  · unfold outK
    rw [List.map_map]
    rfl
/-- an arc with its rank leads on -/
def okR (eo : Nat → Int) (t : Int) (K : Nat → Rk) (b : Rk) (N : Nat → Int) (x : Nat × Rk) : Prop := K x.1 = x.2 ∧ (EndP eo t K b x.1 ∨ N x.1 ≠ -1)
theorem okR_okA {eo : Nat → Int} {t : Int} {K : Nat → Rk} {b : Rk} {N : Nat → Int} {v : Nat} {q : Nat × Int} : okR eo t K b N (q.1, aft (K v) q.2) ↔ okA eo t K b N v q := Iff.rfl
theorem ch_none {G : Gr} {v : Nat} (hv : v < G.eo.length) {t : Int} {K : Nat → Rk} {b : Rk} {N : Nat → Int} {ys : List (Nat × Rk)} (h : ys = outK G (K v) v (fst G (v + 1))) (hn : ∀ x ∈ ys, ¬ okR (eoG G) t K b N x) : ∀ q ∈ arcsG G v, ¬ okA (eoG G) t K b N v q := by
  intro q hq hk
  refine hn (q.1, aft (K v) q.2) ?_ (okR_okA.2 hk)
  rw [h, outK_arcs hv]
  exact List.mem_map_of_mem (f := fun q : Nat × Int => (q.1, aft (K v) q.2)) hq
theorem ch_some {G : Gr} {v k : Nat} (hv : v < G.eo.length) (h1 : fst G v ≤ k) (h2 : k < fst G (v + 1)) {t : Int} {K : Nat → Rk} {b : Rk} {N : Nat → Int} {ys : List (Nat × Rk)} {x : Nat × Rk} (h : ys ++ [x] = outK G (K v) v (k + 1)) (hn : ∀ x ∈ ys, ¬ okR (eoG G) t K b N x) (hx : okR (eoG G) t K b N x) : ∃ pre c post, arcsG G v = pre ++ (x.1, c) :: post ∧ okA (eoG G) t K b N v (x.1, c) ∧ (∀ q ∈ pre, ¬ okA (eoG G) t K b N v q) := by
  rw [outK_snoc G (K v) h1] at h
  obtain ⟨e1, e2⟩ := List.append_inj' h rfl
  have e3 : x = ((iat G.tt k).toNat, aft (K v) (iat G.co k)) := by simpa using e2
  obtain ⟨post, p1, p2⟩ := outK_pre hv (K v) h1 h2
  subst e3
  refine ⟨_, iat G.co k, post, p1, hx, fun q hq hk => ?_⟩
  refine hn (q.1, aft (K v) q.2) ?_ (okR_okA.2 hk)
  rw [e1, p2]
  exact List.mem_map_of_mem (f := fun q : Nat × Int => (q.1, aft (K v) q.2)) hq
def noDeferB (o : Oper) : Bool := match o.op with | .defer _ => false | _ => true
theorem noDefer_of {os : List Oper} (h : os.all noDeferB = true) : ∀ o ∈ os, ∀ c, o.op ≠ .defer c := fun o ho c e => by
  have := List.all_eq_true.1 h o ho
  unfold noDeferB at this
  rw [e] at this
  cases this
theorem KeepsFrom.on {B : Nat} {S : List Nat} {W W' : World} (h : OnS S W W') (hS : ∀ g ∈ S, ∃ c ty fz, W.heap[g]? = some (.cells c ty fz)) : KeepsFrom B W W' :=
  ⟨h.size, fun i o _ hi ho => (h.block i (Array.getElem?_eq_some_iff.1 hi).1 (fun e => by
    obtain ⟨c, ty, fz, hc⟩ := hS i e
    rw [hc] at hi
    cases hi
    cases ho)).trans hi⟩

theorem rk_ne {a : Rk} {c : Rk} (h : a ≠ c) : (a.1 == c.1 && a.2 == c.2) = false := by
  rw [Bool.eq_false_iff]
  intro g
  simp at g
  exact h (Prod.ext g.1 g.2)
theorem row_set {w : World} {g : Nat} {N : List Int} (h : w.heap[g]? = some (.cells (icells N).toArray 2 (0, 0))) (v : Nat) (z : Int) : (w.setCell ⟨g, v, none⟩ (.int .i64 z)).heap[g]? = some (.cells (icells (N.set v z)).toArray 2 (0, 0)) := by
  simp [World.setCell, Array.getElem?_modify, h, icells, List.map_set]
/-- between two arcs; and behind the arc that leads on -/
def CJ (W0 : World) (t : Int) (K : Nat → Rk) (b : Rk) (G : Gr) (v : Nat) (N : List Int) (pre : List (ArcX G (K v) v)) (W : World) : Prop := Nx W0 W ∧ ∀ x ∈ pre.map (·.1), ¬ okR (eoG G) t K b (nfR N) x
def CJx (W0 : World) (t : Int) (K : Nat → Rk) (b : Rk) (G : Gr) (v : Nat) (N : List Int) (g : Nat) (c : Code) (pre : List (ArcX G (K v) v)) (W : World) : Prop :=
  c = .exit 2 ∧ ∃ pre0 x, pre.map (·.1) = pre0 ++ [x] ∧ (∀ x ∈ pre0, ¬ okR (eoG G) t K b (nfR N) x) ∧ okR (eoG G) t K b (nfR N) x ∧ OnS [g] W0 W ∧ W.heap[g]? = some (.cells (icells (N.set v (x.1 : Int))).toArray 2 (0, 0))

set_option maxHeartbeats 16000000 in
theorem choose_inner (l0 : Nat) (r0 : Loop) (W0 : World) (p q rb n : Nat) (a0 : Option Addr) (m0 c0 : Nat) (g1 g2 g3 g4 g5 g6 : Value) (t : Int) (sv : Value) (b : Rk) (K : Nat → Rk) (G : Gr) (B v : Nat) (bS bN Bv g bg bv bs : Nat) (N : List Int) (b2 o2 m2 c2 : Nat) (a3 : Option Addr) (m3 c3 : Nat) (a4 : Option Addr) (m4 c4 : Nat) (hl0 : W0.heap[l0]? = some (.loop r0)) (HVG : Hid (VG G)) (hm2 : m2 = G.fi.length) (hm3 : m3 = G.tt.length) (hm4 : m4 = G.co.length) (hnG : G.eo.length = n) (hn : n ≤ 6000) (hv : v < n) (hr1 : 0 ≤ (K v).1 ∧ (K v).1 ≤ 100000000000) (hr2 : 0 ≤ (K v).2 ∧ (K v).2 ≤ 100000)
    (HS : Hid (SB W0 p [.slice a0 m0 c0, g1, g2, g3, g4, g5, g6] t rb n q sv b)) (HK : Hid (RKM W0 rb n K)) (HG0 : Hid (HInts B W0 (.slice a0 m0 c0) G.eo))
    (HB : Hid (W0.cell? ⟨bS, 0, none⟩ = some (.pointer (some ⟨p, 0, none⟩)) ∧ W0.cell? ⟨bN, 0, none⟩ = some (.slice (some ⟨g, 0, none⟩) n n) ∧ W0.cell? ⟨Bv, 0, none⟩ = some (.int .i64 (v : Int)))) (HN : Hid (N.length = n ∧ W0.heap[g]? = some (.cells (icells N).toArray 2 (0, 0))))
    (HI : Hid (ITC W0 bg bv bs p rb n v b2 o2 m2 c2 a3 m3 c3 a4 m4 c4 G (K v))) (u0 u2 u4 u6 u7 u8 u9 u10 u11 u12 u13 u14 u15 u16 u17 u18 u19 u20 u21 u22 u23 u25 u26 u27 u28 u29 u30 u31 u32 u33 u34 u35 u36 u37 u38 u39 u40 u41 u42 u43 u44 u45 u46 u47 u48 u49 u50 u51 u52 : Value) (ds : List Deferred) (Q : Exit → Act → World → Prop)
    (hdone : ∀ W, Nx W0 W → (∀ q ∈ arcsG G v, ¬ okA (eoG G) t K b (nfR N) v q) → Q .normal ⟨List.toArray (u0 :: .pointer (some ⟨bS, 0, none⟩) :: u2 :: .pointer (some ⟨bN, 0, none⟩) :: u4 :: .pointer (some ⟨Bv, 0, none⟩) :: u6 :: u7 :: u8 :: u9 :: u10 :: u11 :: u12 :: u13 :: u14 :: u15 :: u16 :: u17 :: u18 :: u19 :: u20 :: u21 :: u22 :: u23 :: .func (.func 65) #[] #[.pointer (some ⟨bg, 0, none⟩), .pointer (some ⟨bv, 0, none⟩), .pointer (some ⟨bs, 0, none⟩)] :: u25 :: u26 :: u27 :: u28 :: u29 :: u30 :: u31 :: u32 :: u33 :: u34 :: u35 :: u36 :: u37 :: u38 :: u39 :: u40 :: u41 :: u42 :: u43 :: u44 :: u45 :: u46 :: u47 :: u48 :: u49 :: u50 :: u51 :: u52 :: []), ds⟩ W)
    (hstop : ∀ (W : World) (y : Nat), OnS [g] W0 W → W.heap[g]? = some (.cells (icells (N.set v (y : Int))).toArray 2 (0, 0)) → (∃ pre c post, arcsG G v = pre ++ (y, c) :: post ∧ okA (eoG G) t K b (nfR N) v (y, c) ∧ (∀ q ∈ pre, ¬ okA (eoG G) t K b (nfR N) v q)) → Q (.exit 2) ⟨List.toArray (u0 :: .pointer (some ⟨bS, 0, none⟩) :: u2 :: .pointer (some ⟨bN, 0, none⟩) :: u4 :: .pointer (some ⟨Bv, 0, none⟩) :: u6 :: u7 :: u8 :: u9 :: u10 :: u11 :: u12 :: u13 :: u14 :: u15 :: u16 :: u17 :: u18 :: u19 :: u20 :: u21 :: u22 :: u23 :: .func (.func 65) #[] #[.pointer (some ⟨bg, 0, none⟩), .pointer (some ⟨bv, 0, none⟩), .pointer (some ⟨bs, 0, none⟩)] :: u25 :: u26 :: u27 :: u28 :: u29 :: u30 :: u31 :: u32 :: u33 :: u34 :: u35 :: u36 :: u37 :: u38 :: u39 :: u40 :: u41 :: u42 :: u43 :: u44 :: u45 :: u46 :: u47 :: u48 :: u49 :: u50 :: u51 :: u52 :: []), ds⟩ W) :
    Code.wpIn (Fence.wide.inRound l0) 7 Try.prog ((((Try.f55.body.map rangesOf).getD [])[1]?).getD .skip) Q ⟨List.toArray (u0 :: .pointer (some ⟨bS, 0, none⟩) :: u2 :: .pointer (some ⟨bN, 0, none⟩) :: u4 :: .pointer (some ⟨Bv, 0, none⟩) :: u6 :: u7 :: u8 :: u9 :: u10 :: u11 :: u12 :: u13 :: u14 :: u15 :: u16 :: u17 :: u18 :: u19 :: u20 :: u21 :: u22 :: u23 :: .func (.func 65) #[] #[.pointer (some ⟨bg, 0, none⟩), .pointer (some ⟨bv, 0, none⟩), .pointer (some ⟨bs, 0, none⟩)] :: u25 :: u26 :: u27 :: u28 :: u29 :: u30 :: u31 :: u32 :: u33 :: u34 :: u35 :: u36 :: u37 :: u38 :: u39 :: u40 :: u41 :: u42 :: u43 :: u44 :: u45 :: u46 :: u47 :: u48 :: u49 :: u50 :: u51 :: u52 :: []), ds⟩ W0 := by
  conv => arg 4; whnf
  have HDONE : Hid _ := hdone
  have HSTOP : Hid _ := hstop
  clear hdone hstop
  refine wpIn_rangeFunc_ownN (n := 7) (F := Fence.wide.inRound l0) rfl hl0 (by decide) (gf := 65) (lb := #[.pointer (some ⟨bg, 0, none⟩), .pointer (some ⟨bv, 0, none⟩), .pointer (some ⟨bs, 0, none⟩)]) rfl trivial (enters_of Try.func65 (by kernel_rfl) rfl)
    (SeqStopsK.inRound l0 (onward_stops bg bv bs p rb n v b2 o2 m2 c2 a3 m3 c3 a4 m4 c4 G (K v) 40000 6 HVG.out (by omega) hm2 hm3 hm4 hv hr1 hr2 ?hN W0 HI.out)) (fun h1 h2 h3 => h2 (h1 h3)) (fun W l o o' _ h ho _ hI => itc_put bg bv bs p rb n v b2 o2 m2 c2 a3 m3 c3 a4 m4 c4 G (K v) W l o o' h ho hI) (Below.refl _ _) (fun _ => rfl)
    (CJ W0 t K b G v N) (CJx W0 t K b G v N g) ?hI ?hIx ⟨Below.refl _ _, by simp⟩
    (fun x a' W => ∃ Bx, W.cell? ⟨Bx, 0, none⟩ = some (.int .i64 x.1.2.1) ∧ W.cell? ⟨Bx, 1, none⟩ = some (.int .i64 x.1.2.2) ∧ a' = ⟨List.toArray (u0 :: .pointer (some ⟨bS, 0, none⟩) :: u2 :: .pointer (some ⟨bN, 0, none⟩) :: u4 :: .pointer (some ⟨Bv, 0, none⟩) :: .int .i64 (x.1.1 : Int) :: .pointer (some ⟨Bx, 0, none⟩) :: u8 :: u9 :: u10 :: u11 :: u12 :: u13 :: u14 :: u15 :: u16 :: u17 :: u18 :: u19 :: u20 :: u21 :: u22 :: u23 :: .func (.func 65) #[] #[.pointer (some ⟨bg, 0, none⟩), .pointer (some ⟨bv, 0, none⟩), .pointer (some ⟨bs, 0, none⟩)] :: .int .i64 (x.1.1 : Int) :: .agg #[.int .i64 x.1.2.1, .int .i64 x.1.2.2] :: u27 :: u28 :: u29 :: u30 :: u31 :: u32 :: u33 :: u34 :: u35 :: u36 :: u37 :: u38 :: u39 :: u40 :: u41 :: u42 :: u43 :: u44 :: u45 :: u46 :: u47 :: u48 :: u49 :: u50 :: u51 :: u52 :: []), []⟩) ?hAx ?assign ?body ?done ?stop
  case hN =>
    have h1 := (fst_eq HVG.out (show v + 1 ≤ G.eo.length by omega)).2
    have h2 := HVG.out.t
    omega
  case hI =>
    rintro pre W W' row ⟨h1, h2⟩ hg hr
    exact ⟨ownFrom_below (β := Unit) (Nat.le_refl _) (Nat.le_refl _) () W W' row h1 hg hr, h2⟩
  case hIx =>
    rintro c pre W W' row ⟨hc, pre0, x, h1, h2, h3, h4, h5⟩ hg hr
    have hgl : g < W0.heap.size := (Array.getElem?_eq_some_iff.1 HN.out.2).1
    refine ⟨hc, pre0, x, h1, h2, h3, ⟨hg.os.trans h4.os, hg.tape.trans h4.tape, hg.output.trans h4.output, Nat.le_trans h4.size hg.size, fun i hi hm => (hg.block i (Nat.lt_of_lt_of_le hi h4.size) (fun e => ?_)).trans (h4.block i hi hm)⟩, (hg.block g (Array.getElem?_eq_some_iff.1 h5).1 (fun e => ?_)).trans h5⟩
    · have := (hr i e.symm).1
      omega
    · have := (hr g e.symm).1
      omega
  case hAx =>
    rintro x a' _ W W' row ⟨Bx, h2, h3, h4⟩ hg hr
    exact ⟨Bx, cell_kept h2 hg (fun r e => (hr r e).2), cell_kept h3 hg (fun r e => (hr r e).2), h4⟩
  case stop =>
    rintro c pre W ⟨k, k1, k2, k3⟩ ⟨rfl, pre0, x, h1, h2, h3, h4, h5⟩
    refine wpIn_exit ?_
    exact HSTOP.out W x.1 h4 h5 (ch_some (by omega) k1 k2 (h1.symm.trans k3) h2 h3)
  case done =>
    rintro ys W hys ⟨h1, h2⟩
    exact HDONE.out W h1 (ch_none (by omega) hys h2)
  case assign =>
    rintro l pre x W K ⟨hB, hI⟩ hK
    have HB1 : Hid (Nx W0 (W.alloc (.cells #[.int .i64 x.1.2.1, .int .i64 x.1.2.2] 56))) := hB.trans (box1 _ _)
    have HI2 : Hid _ := hI
    clear hB hI
    unfold encA
    gi_wp2
    exact hK _ _ ((KeepsOthers.alloc _ _).from _) (fun h => h.kept (fun b o u hc => cellq (box1 _ _) hc)) ⟨HB1.out, HI2.out⟩ ⟨W.heap.size, (Blk.new W #[.int .i64 x.1.2.1, .int .i64 x.1.2.2] 56 _ rfl).cell (i := 0) rfl, (Blk.new W #[.int .i64 x.1.2.1, .int .i64 x.1.2.2] 56 _ rfl).cell (i := 1) rfl, rfl⟩
  case body =>
    rintro l pre x a' W hl ⟨rec, hrec⟩ ⟨hB, hI⟩ ⟨Bx, hb1, hb2, rfl⟩ hlen
    have HB1 : Hid (Nx W0 W) := hB
    have HI2 : Hid (∀ x ∈ pre.map (·.1), ¬ okR (eoG G) t K b (nfR N) x) := hI
    obtain ⟨k, hk, hxe⟩ := okX_arc HVG.out (by omega) x.2
    have htn : x.1.1 < n := by have := arcs_lt HVG.out _ _ _ hk; omega
    have htn' : (x.1.1 : Int) < n := by omega
    have hvn' : (v : Int) < n := by omega
    have x1 := cellq hB HB.out.1
    have x2 := cellq hB HB.out.2.1
    have hS := HS.out.kept (hB.block p HS.out.lt)
    have x3 := hS.cell.2.1
    have hK := HK.out.next hB
    have r1 := hK.c1 htn
    have r2 := hK.c2 htn
    have HNL : Hid (N.length = n) := HN.out.1
    have hgW : W.heap[g]? = some (.cells (icells N).toArray 2 (0, 0)) := (hB.block g (Array.getElem?_eq_some_iff.1 HN.out.2).1).trans HN.out.2
    have HGW : Hid (W.heap[g]? = some (.cells (icells N).toArray 2 (0, 0))) := hgW
    have x4 : W.cell? ⟨g, x.1.1, none⟩ = some (.int .i64 (nfR N x.1.1)) := by
      rw [nfR_at (by rw [HNL.out]; exact htn)]
      simp only [World.cell?, hgW]
      have := icells_at (zs := N) (i := x.1.1) (by rw [HNL.out]; exact htn)
      simpa using this
    have hEQ := fun W : World => eqRank (K x.1.1).1 (K x.1.1).2 x.1.2.1 x.1.2.2 W
    have CG : Hid (∀ d os, Calls Try.prog 56 #[.pointer (some ⟨p, 0, none⟩), .int .i64 (x.1.1 : Int)] (Sort.grow (redrawn W d) os) fun e w'' => e = .returned (.bool (endB (eoG G) t K b x.1.1)) ∧ ∃ p : Regrown, w'' = Sort.grow (redrawn W p.d) p.os) :=
      fun d os => Calls.regrown_of (ends_any B p rb n q a0 m0 c0 g1 g2 g3 g4 g5 g6 G t sv b K x.1.1 _ (hS.kept ((below_regrown W d os).block p hS.lt)) (hK.next (below_regrown W d os)) ((HG0.out.next hB).next (below_regrown W d os)) hnG htn)
    have HOK : Hid (okR (eoG G) t K b (nfR N) x.1 ↔ (K x.1.1 = x.1.2 ∧ (EndP (eoG G) t K b x.1.1 ∨ nfR N x.1.1 ≠ -1))) := Iff.rfl
    have HEND : Hid (∀ (W' : World), Nx W W' → ¬ okR (eoG G) t K b (nfR N) x.1 → KeepsFrom W0.heap.size W W' ∧ (ITC W bg bv bs p rb n v b2 o2 m2 c2 a3 m3 c3 a4 m4 c4 G (K v) → ITC W' bg bv bs p rb n v b2 o2 m2 c2 a3 m3 c3 a4 m4 c4 G (K v)) ∧ CJ W0 t K b G v N (pre ++ [x]) W') := by
      intro W' h1 h2
      refine ⟨KeepsFrom.on (OnS.nx (S := []) h1) (by simp), fun h => h.kept (fun b o u hc => cellq h1 hc), HB1.out.trans h1, fun y hy => ?_⟩
      rw [List.map_append, List.mem_append] at hy
      rcases hy with hy | hy
      · exact HI2.out y hy
      · have : y = x.1 := by simpa using hy
        subst this
        exact h2
    have HVB : Hid (W.cell? ⟨Bv, 0, none⟩ = some (.int .i64 (v : Int))) := cellq hB HB.out.2.2
    have HNS : Hid (∀ W3, Nx W W3 → okR (eoG G) t K b (nfR N) x.1 → KeepsFrom W0.heap.size W (W3.setCell ⟨g, v, none⟩ (.int .i64 (x.1.1 : Int))) ∧ CJx W0 t K b G v N g (.exit 2) (pre ++ [x]) (W3.setCell ⟨g, v, none⟩ (.int .i64 (x.1.1 : Int)))) := by
      intro W3 h1 h2
      have hg3 : W3.heap[g]? = some (.cells (icells N).toArray 2 (0, 0)) := (h1.block g (Array.getElem?_eq_some_iff.1 HGW.out).1).trans HGW.out
      refine ⟨KeepsFrom.on ((OnS.nx (S := [g]) h1).tr (OnS.set [g] W3 (by simp) v _)) (fun z hz => by have := List.mem_singleton.1 hz; subst this; exact ⟨_, _, _, HGW.out⟩), rfl, pre.map (·.1), x.1, by simp, HI2.out, h2, (OnS.nx (S := [g]) (HB1.out.trans h1)).tr (OnS.set [g] W3 (by simp) v _), row_set hg3 v _⟩
    have HOK1 : Hid (K x.1.1 ≠ x.1.2 → ¬ okR (eoG G) t K b (nfR N) x.1) := fun h g => h g.1
    have HOK2 : Hid (K x.1.1 = x.1.2 → EndP (eoG G) t K b x.1.1 → okR (eoG G) t K b (nfR N) x.1) := fun h g => ⟨h, Or.inl g⟩
    have HOK3 : Hid (K x.1.1 = x.1.2 → nfR N x.1.1 ≠ -1 → okR (eoG G) t K b (nfR N) x.1) := fun h g => ⟨h, Or.inr g⟩
    have HOK4 : Hid (¬ EndP (eoG G) t K b x.1.1 → ¬ nfR N x.1.1 ≠ -1 → ¬ okR (eoG G) t K b (nfR N) x.1) := fun h1 h2 g => g.2.elim h1 h2
    have HEQ : Hid (∀ W : World, (Op.equalIn 10000 56 (.agg #[.int .i64 (K x.1.1).1, .int .i64 (K x.1.1).2]) (.agg #[.int .i64 x.1.2.1, .int .i64 x.1.2.2])).run Try.prog W = .ok ((K x.1.1).1 == x.1.2.1 && (K x.1.1).2 == x.1.2.2) W) := hEQ
    have HCV : Hid (W.cell? ⟨g, v, none⟩ = some (.int .i64 (iat N v))) := by
      unfold Hid
      simp only [World.cell?, hgW]
      have := icells_at (zs := N) (i := v) (by rw [HNL.out]; exact hv)
      simpa using this
    have HFZ : Hid (∀ W3, Nx W W3 → W3.frozen? ⟨g, v, none⟩ = false) := fun W3 h1 => by
      have hg3 : W3.heap[g]? = some (.cells (icells N).toArray 2 (0, 0)) := (h1.block g (Array.getElem?_eq_some_iff.1 HGW.out).1).trans HGW.out
      simp [World.frozen?, hg3]
    have HX2 : Hid (W.cell? ⟨bN, 0, none⟩ = some (.slice (some ⟨g, 0, none⟩) n n)) := x2
    have x1 := cell_regrown x1
    have x2 := cell_regrown x2
    have x3 := cell_regrown x3
    have x4 := cell_regrown x4
    have r1 := cell_regrown r1
    have r2 := cell_regrown r2
    have hb1 := cell_regrown hb1
    have hb2 := cell_regrown hb2
    clear hEQ hS hK hgW hB hI hk hxe hm2 hm3 hm4
    refine wpIn_block ?_
    refine wpIn_seq ?_
    by_cases he : K x.1.1 = x.1.2
    case neg =>
      have hq : ∀ W : World, (Op.equalIn 10000 56 (.agg #[.int .i64 (K x.1.1).1, .int .i64 (K x.1.1).2]) (.agg #[.int .i64 x.1.2.1, .int .i64 x.1.2.2])).run Try.prog W = .ok false W := fun W => by rw [HEQ.out W, rk_ne he]
      have HOK : Hid (¬ okR (eoG G) t K b (nfR N) x.1) := HOK1.out he
      clear he
      refine wpIn_region_quiet_r (by kernel_rfl) (by kernel_rfl) (noDefer_of (by kernel_rfl)) (fun ⟨_, _, h⟩ => h) ?_
      repeat (go_big_quiet_step (exact CG.out _ _))
      refine wpQuiet_nil ?_
      intro W' hw'
      obtain ⟨⟨dq, osq⟩, hw''⟩ := hw'
      have HB3 : Hid (Nx W W') := by unfold Hid; rw [hw'']; exact below_regrown W dq osq
      clear hw'' hq
      gi_wp2
      exact HEND.out W' HB3.out HOK.out
    have hq : ∀ W : World, (Op.equalIn 10000 56 (.agg #[.int .i64 (K x.1.1).1, .int .i64 (K x.1.1).2]) (.agg #[.int .i64 x.1.2.1, .int .i64 x.1.2.2])).run Try.prog W = .ok true W := fun W => by rw [HEQ.out W, he]; simp
    have HE : Hid (K x.1.1 = x.1.2) := he
    clear he
    by_cases hend : EndP (eoG G) t K b x.1.1
    · have de : endB (eoG G) t K b x.1.1 = true := (endB_iff _ _ _ _ _).2 hend
      rw [de] at CG
      have HOK : Hid (okR (eoG G) t K b (nfR N) x.1) := HOK2.out HE.out hend
      clear hend de
      refine wpIn_region_quiet_r (by kernel_rfl) (by kernel_rfl) (noDefer_of (by kernel_rfl)) (fun ⟨_, _, h⟩ => h) ?_
      repeat (go_big_quiet_step (exact CG.out _ _))
      refine wpQuiet_nil ?_
      intro W' hw'
      obtain ⟨⟨dq, osq⟩, hw''⟩ := hw'
      have HB3 : Hid (Nx W W') := by unfold Hid; rw [hw'']; exact below_regrown W dq osq
      clear hw'' hq x1 x2 x3 x4 r1 r2 hb1 hb2
      have z1 := cellq HB3.out HX2.out
      have z2 := cellq HB3.out HVB.out
      have z3 := cellq HB3.out HCV.out
      have z4 := HFZ.out W' HB3.out
      gi_wp2
      exact HNS.out W' HB3.out HOK.out
    have de : endB (eoG G) t K b x.1.1 = false := Bool.eq_false_iff.2 (fun h => hend ((endB_iff _ _ _ _ _).1 h))
    rw [de] at CG
    have HNE : Hid (¬ EndP (eoG G) t K b x.1.1) := hend
    clear hend de
    by_cases hm : nfR N x.1.1 = -1
    · have d2 : (nfR N x.1.1 != -1) = false := by simpa using hm
      have HOK : Hid (¬ okR (eoG G) t K b (nfR N) x.1) := HOK4.out HNE.out (fun h => h hm)
      clear hm
      refine wpIn_region_quiet_r (by kernel_rfl) (by kernel_rfl) (noDefer_of (by kernel_rfl)) (fun ⟨_, _, h⟩ => h) ?_
      repeat (go_big_quiet_step (exact CG.out _ _))
      refine wpQuiet_nil ?_
      intro W' hw'
      obtain ⟨⟨dq, osq⟩, hw''⟩ := hw'
      have HB3 : Hid (Nx W W') := by unfold Hid; rw [hw'']; exact below_regrown W dq osq
      clear hw'' hq
      gi_wp2
      exact HEND.out W' HB3.out HOK.out
    have d2 : (nfR N x.1.1 != -1) = true := by simpa using hm
    have HOK : Hid (okR (eoG G) t K b (nfR N) x.1) := HOK3.out HE.out hm
    clear hm
    refine wpIn_region_quiet_r (by kernel_rfl) (by kernel_rfl) (noDefer_of (by kernel_rfl)) (fun ⟨_, _, h⟩ => h) ?_
    repeat (go_big_quiet_step (exact CG.out _ _))
    refine wpQuiet_nil ?_
    intro W' hw'
    obtain ⟨⟨dq, osq⟩, hw''⟩ := hw'
    have HB3 : Hid (Nx W W') := by unfold Hid; rw [hw'']; exact below_regrown W dq osq
    clear hw'' hq x1 x2 x3 x4 r1 r2 hb1 hb2 d2
    have z1 := cellq HB3.out HX2.out
    have z2 := cellq HB3.out HVB.out
    have z3 := cellq HB3.out HCV.out
    have z4 := HFZ.out W' HB3.out
    gi_wp2
    exact HNS.out W' HB3.out HOK.out
end Go.Proofs.Yticooljejlkbfaa
