import Derived.Test.YticooljejlkbfaaSL
import Derived.Test.YticooljejlkbfaaSV
namespace Go.Proofs.Yticooljejlkbfaa
open Go.RowKit Go.Sort
set_option linter.unusedVariables false
set_option maxRecDepth 100000

/-- the arcs of a vertex: where to, and what they cost -/
def arcsG (G : Gr) (v : Nat) : List (Nat × Int) := if v < G.eo.length then (List.range' (fst G v) (fst G (v + 1) - fst G v)).map (fun k => ((iat G.tt k).toNat, iat G.co k)) else []
def eoG (G : Gr) (v : Nat) : Int := iat G.eo v
def stG (G : Gr) (s : Nat) : Nat := (iat G.sr s).toNat
theorem arcs_iff {G : Gr} (h : VG G) {v u : Nat} {c : Int} : (u, c) ∈ arcsG G v ↔ v < G.eo.length ∧ ∃ k, fst G v ≤ k ∧ k < fst G (v + 1) ∧ u = (iat G.tt k).toNat ∧ c = iat G.co k := by
  unfold arcsG
  by_cases hv : v < G.eo.length
  · rw [if_pos hv, List.mem_map]
    have hle := fst_le h hv
    constructor
    · rintro ⟨k, hk, e⟩
      rw [List.mem_range'_1] at hk
      simp only [Prod.mk.injEq] at e
      exact ⟨hv, k, hk.1, by omega, e.1.symm, e.2.symm⟩
    · rintro ⟨_, k, h1, h2, rfl, rfl⟩
      exact ⟨k, by rw [List.mem_range'_1]; omega, rfl⟩
  · rw [if_neg hv]
    simp [hv]
theorem fst_tt {G : Gr} (h : VG G) {v k : Nat} (hv : v < G.eo.length) (hk : k < fst G (v + 1)) : k < G.tt.length := by
  have := (fst_eq h (show v + 1 ≤ G.eo.length by omega)).2
  omega
theorem arcs_lt {G : Gr} (h : VG G) : ∀ v u c, (u, c) ∈ arcsG G v → u < G.eo.length := by
  intro v u c hm
  obtain ⟨hv, k, h1, h2, rfl, _⟩ := (arcs_iff h).1 hm
  have := h.tt k (fst_tt h hv h2)
  omega
theorem arcs_co {G : Gr} (h : VG G) : ∀ v u c, (u, c) ∈ arcsG G v → 0 ≤ c ∧ c ≤ 3145728 := by
  intro v u c hm
  obtain ⟨hv, k, h1, h2, _, rfl⟩ := (arcs_iff h).1 hm
  exact h.co k (fst_tt h hv h2)
theorem st_lt {G : Gr} (h : VG G) {s : Nat} (hs : s < G.sr.length) : stG G s < G.eo.length ∧ iat G.sr s = (stG G s : Int) ∧ eoG G (stG G s) = s := by
  have := h.sr s hs
  unfold stG eoG
  omega
theorem wk_cost {G : Gr} (h : VG G) {s0 : Nat} {w0 : Int} (hw : 0 ≤ w0 ∧ w0 ≤ 1048576) {E : List Int} {c : Int} {v : Nat} (k : WK (eoG G) (arcsG G) s0 w0 E c v) : 0 ≤ c ∧ c ≤ 1048576 + (E.length : Int) * 3145728 := by
  induction k using WK.ind with
  | base => simp; omega
  | step _ hm ih =>
    have := arcs_co h _ _ _ hm
    rw [List.length_append, List.length_singleton]
    omega
/-- keys are vertices: few walks -/
theorem kp_len {n : Nat} {ws : List Wk} (h : KP ws) (hv : ∀ x ∈ ws, ∃ v : Nat, v < n ∧ x.key = [(v : Int)]) : ws.length ≤ n := by
  have h1 := nodup_len n (ws.map (fun x => (iat x.key 0).toNat)) (by
    rw [List.nodup_iff_pairwise_ne, List.pairwise_map]
    refine List.Pairwise.imp_of_mem (fun {x y} hx hy hne e => ?_) h.pw
    obtain ⟨v, _, ev⟩ := hv x hx
    obtain ⟨u, _, eu⟩ := hv y hy
    rw [ev, eu] at e
    simp [iat] at e
    exact hne (by rw [ev, eu, e])) (by
    intro y hy
    obtain ⟨x, hx, rfl⟩ := List.mem_map.1 hy
    obtain ⟨v, hl, ev⟩ := hv x hx
    rw [ev]
    simpa [iat] using hl)
  simpa using h1
/-- the walks of one edge more: i of the front are done, and the arcs of the next below k -/
def CandP (G : Gr) (seen front : List Wk) (i k : Nat) (z : Wk) : Prop :=
  ∃ a v b : Nat, a < front.length ∧ (wkat front a).key = [(v : Int)] ∧ v < G.eo.length ∧ fst G v ≤ b ∧ b < fst G (v + 1) ∧ (a < i ∨ (a = i ∧ b < k)) ∧ z = ⟨(wkat front a).E ++ [eoG G (iat G.tt b).toNat], (wkat front a).c + iat G.co b, [iat G.tt b]⟩ ∧ ∀ y ∈ seen, y.key = [iat G.tt b] → ¬ y.c ≤ (wkat front a).c + iat G.co b
theorem cand_all {G : Gr} (h : VG G) {seen front C : List Wk} (hf : ∀ x ∈ front, ∃ v : Nat, v < G.eo.length ∧ x.key = [(v : Int)]) (hC : ∀ z, z ∈ C ↔ CandP G seen front front.length 0 z) : Cands (eoG G) (arcsG G) seen front C := by
  intro z
  rw [hC]
  constructor
  · rintro ⟨a, v, b, ha, hk, hv, h1, h2, _, rfl, hy⟩
    have htt := h.tt b (fst_tt h hv h2)
    have e : iat G.tt b = ((iat G.tt b).toNat : Int) := by omega
    exact ⟨wkat front a, wkat_mem ha, v, (iat G.tt b).toNat, iat G.co b, hk, (arcs_iff h).2 ⟨hv, b, h1, h2, rfl, rfl⟩, by rw [← e], by rw [← e]; exact hy⟩
  · rintro ⟨x, hx, v, u, c, hk, hm, rfl, hy⟩
    obtain ⟨a, ha, rfl⟩ := mem_wkat hx
    obtain ⟨hv, b, h1, h2, rfl, rfl⟩ := (arcs_iff h).1 hm
    have htt := h.tt b (fst_tt h hv h2)
    have e : iat G.tt b = ((iat G.tt b).toNat : Int) := by omega
    exact ⟨a, v, b, ha, hk, hv, h1, h2, Or.inl ha, by rw [← e], by rw [e]; exact hy⟩
/-- next under way -/
def NW (G : Gr) (seen front : List Wk) (i k : Nat) (R : List Wk) : Prop := KP R ∧ ∃ C, Best R C ∧ ∀ z, z ∈ C ↔ CandP G seen front i k z
theorem NW.start (G : Gr) (seen front : List Wk) : NW G seen front 0 0 [] := ⟨kp_nil, [], Best.nil, fun z => ⟨fun h => by simp at h, fun ⟨a, v, b, _, _, _, _, _, h, _⟩ => by omega⟩⟩
theorem NW.open {G : Gr} {seen front R : List Wk} {i v : Nat} (h : NW G seen front i 0 R) (hi : i < front.length) (hk : (wkat front i).key = [(v : Int)]) : NW G seen front i (fst G v) R := by
  obtain ⟨h1, C, h2, h3⟩ := h
  refine ⟨h1, C, h2, fun z => ?_⟩
  rw [h3]
  constructor
  · rintro ⟨a, u, b, g1, g2, g3, g4, g5, g6, g7⟩
    exact ⟨a, u, b, g1, g2, g3, g4, g5, g6.elim Or.inl (fun g => by omega), g7⟩
  · rintro ⟨a, u, b, g1, g2, g3, g4, g5, g6, g7⟩
    refine ⟨a, u, b, g1, g2, g3, g4, g5, ?_, g7⟩
    rcases g6 with g | ⟨rfl, g⟩
    · exact Or.inl g
    · have : u = v := key_inj (g2.symm.trans hk)
      subst this
      omega
theorem NW.close {G : Gr} {seen front R : List Wk} {i v k : Nat} (h : NW G seen front i k R) (hk : (wkat front i).key = [(v : Int)]) (hke : fst G (v + 1) ≤ k) : NW G seen front (i + 1) 0 R := by
  obtain ⟨h1, C, h2, h3⟩ := h
  refine ⟨h1, C, h2, fun z => ?_⟩
  rw [h3]
  constructor
  · rintro ⟨a, u, b, g1, g2, g3, g4, g5, g6, g7⟩
    exact ⟨a, u, b, g1, g2, g3, g4, g5, Or.inl (by omega), g7⟩
  · rintro ⟨a, u, b, g1, g2, g3, g4, g5, g6, g7⟩
    refine ⟨a, u, b, g1, g2, g3, g4, g5, ?_, g7⟩
    by_cases e : a = i
    · subst e
      have : u = v := key_inj (g2.symm.trans hk)
      subst this
      exact Or.inr ⟨rfl, by omega⟩
    · exact Or.inl (by omega)
theorem NW.skip {G : Gr} {seen front R : List Wk} {i v k : Nat} (h : NW G seen front i k R) (hk : (wkat front i).key = [(v : Int)]) (hp : ∃ y ∈ seen, y.key = [iat G.tt k] ∧ y.c ≤ (wkat front i).c + iat G.co k) : NW G seen front i (k + 1) R := by
  obtain ⟨h1, C, h2, h3⟩ := h
  refine ⟨h1, C, h2, fun z => ?_⟩
  rw [h3]
  constructor
  · rintro ⟨a, u, b, g1, g2, g3, g4, g5, g6, g7⟩
    exact ⟨a, u, b, g1, g2, g3, g4, g5, g6.elim Or.inl (fun g => Or.inr ⟨g.1, by omega⟩), g7⟩
  · rintro ⟨a, u, b, g1, g2, g3, g4, g5, g6, g7, g8⟩
    refine ⟨a, u, b, g1, g2, g3, g4, g5, ?_, g7, g8⟩
    rcases g6 with g | ⟨rfl, g⟩
    · exact Or.inl g
    · by_cases e : b = k
      · subst e
        obtain ⟨y, hy, e1, e2⟩ := hp
        exact absurd e2 (g8 y hy e1)
      · exact Or.inr ⟨rfl, by omega⟩
theorem NW.take {G : Gr} {seen front R : List Wk} {i v k : Nat} (h : NW G seen front i k R) (hi : i < front.length) (hv : v < G.eo.length) (hk : (wkat front i).key = [(v : Int)]) (h1 : fst G v ≤ k) (h2 : k < fst G (v + 1)) (hp : ∀ y ∈ seen, y.key = [iat G.tt k] → ¬ y.c ≤ (wkat front i).c + iat G.co k) :
    NW G seen front i (k + 1) (keepW R ⟨(wkat front i).E ++ [eoG G (iat G.tt k).toNat], (wkat front i).c + iat G.co k, [iat G.tt k]⟩) := by
  obtain ⟨q1, C, q2, q3⟩ := h
  refine ⟨keep_kp q1, _, q2.keep _, fun z => ?_⟩
  rw [List.mem_append, q3]
  constructor
  · rintro (⟨a, u, b, g1, g2, g3, g4, g5, g6, g7⟩ | h)
    · exact ⟨a, u, b, g1, g2, g3, g4, g5, g6.elim Or.inl (fun g => Or.inr ⟨g.1, by omega⟩), g7⟩
    · simp at h
      exact ⟨i, v, k, hi, hk, hv, h1, h2, Or.inr ⟨rfl, by omega⟩, h, hp⟩
  · rintro ⟨a, u, b, g1, g2, g3, g4, g5, g6, g7, g8⟩
    rcases g6 with g | ⟨rfl, g⟩
    · exact Or.inl ⟨a, u, b, g1, g2, g3, g4, g5, Or.inl g, g7, g8⟩
    · by_cases e : b = k
      · subst e
        right
        simp
        exact g7
      · exact Or.inl ⟨a, u, b, g1, g2, g3, g4, g5, Or.inr ⟨rfl, by omega⟩, g7, g8⟩
theorem NW.key {G : Gr} (hG : VG G) {seen front R : List Wk} {i k : Nat} (h : NW G seen front i k R) : ∀ x ∈ R, ∃ v : Nat, v < G.eo.length ∧ x.key = [(v : Int)] := by
  obtain ⟨q1, C, q2, q3⟩ := h
  intro x hx
  obtain ⟨a, u, b, g1, g2, g3, g4, g5, g6, rfl, g8⟩ := (q3 x).1 (q2.sub x hx)
  have := hG.tt b (fst_tt hG g3 g5)
  exact ⟨(iat G.tt b).toNat, by omega, by show [iat G.tt b] = _; congr 1; omega⟩
/-- the answer of Shortest -/
def RouteIs (G : Gr) (s t : Int) (r : Rt) : Prop :=
  (validG G = false ∧ r = ⟨3, 0, []⟩) ∨ (validG G = true ∧ ¬ (0 ≤ s ∧ s < G.sr.length ∧ 0 ≤ t ∧ t < G.sr.length) ∧ r = ⟨2, 0, []⟩) ∨
  (validG G = true ∧ (0 ≤ s ∧ s < G.sr.length ∧ 0 ≤ t ∧ t < G.sr.length) ∧ BestR t (fun c E => ∃ v, WK (eoG G) (arcsG G) (stG G s.toNat) (iat G.we s.toNat) E c v ∧ eoG G v = t) r)
theorem RouteIs.uniq {G : Gr} {s t : Int} {r r' : Rt} (h : RouteIs G s t r) (k : RouteIs G s t r') : r = r' := by
  rcases h with ⟨h1, h2⟩ | ⟨h1, h2, h3⟩ | ⟨h1, h2, h3⟩
  · rcases k with ⟨k1, k2⟩ | ⟨k1, _⟩ | ⟨k1, _⟩
    · rw [h2, k2]
    · rw [h1] at k1; cases k1
    · rw [h1] at k1; cases k1
  · rcases k with ⟨k1, _⟩ | ⟨k1, k2, k3⟩ | ⟨k1, k2, k3⟩
    · rw [h1] at k1; cases k1
    · rw [h3, k3]
    · exact absurd k2 h2
  · rcases k with ⟨k1, _⟩ | ⟨k1, k2, k3⟩ | ⟨k1, k2, k3⟩
    · rw [h1] at k1; cases k1
    · exact absurd h2 k2
    · exact h3.uniq k3
end Go.Proofs.Yticooljejlkbfaa

namespace Go.Proofs.Yticooljejlkbfaa
open Go.RowKit Go.Sort
set_option linter.unusedVariables false
set_option maxRecDepth 100000

/-- a block of this type lies there -/
def TRow (ty : Nat) (w : World) (o : Option Nat) : Prop := ∀ g, o = some g → g < w.heap.size → ∃ c fr, w.heap[g]? = some (.cells c ty fr)
theorem OwnI.ont {C ty : Nat} {o : Option Nat} {w w' : World} {v : Value} {zs : List Int} (h : OwnI C w v zs) (k : Onl o w w') (hr : TRow ty w o) (hne : ty ≠ 2) : OwnI C w' v zs := by
  obtain ⟨h1, h2⟩ := h
  refine ⟨h1, ?_⟩
  rcases h2 with h2 | ⟨g, cap, cur, hv, hg, hh, r⟩
  · exact Or.inl h2
  · have hl := (Array.getElem?_eq_some_iff.1 hh).1
    refine Or.inr ⟨g, cap, cur, hv, hg, (k.block g hl (fun e => ?_)).trans hh, r⟩
    obtain ⟨c, fr, hc⟩ := hr g e.symm hl
    rw [hh] at hc
    simp at hc
    exact hne hc.2.1.symm
theorem OwnK.ont {C ty : Nat} {o : Option Nat} {w w' : World} {v : Value} {ws : List Wk} (h : OwnK C w v ws) (k : Onl o w w') (hr : TRow ty w o) (hne : ty ≠ 2) (hne' : ty ≠ 39) : OwnK C w' v ws := by
  obtain ⟨F, ⟨h1, h2⟩, h3⟩ := h
  refine ⟨F, ⟨h1, ?_⟩, fun i hi => ⟨(h3 i hi).1.ont k hr hne, (h3 i hi).2.1, (h3 i hi).2.2.ont k hr hne⟩⟩
  rcases h2 with h2 | ⟨g, cap, cur, hv', hg, hh, r⟩
  · exact Or.inl h2
  · have hl := (Array.getElem?_eq_some_iff.1 hh).1
    refine Or.inr ⟨g, cap, cur, hv', hg, (k.block g hl (fun e => ?_)).trans hh, r⟩
    obtain ⟨c, fr, hc⟩ := hr g e.symm hl
    rw [hh] at hc
    simp at hc
    exact hne' hc.2.1.symm
/-- a route's box -/
def RBox (w : World) (b : Nat) (rc rk : Int) (oa : Option Addr) (on oc : Nat) : Prop := w.heap[b]? = some (.cells #[.int .i64 rc, .int .i64 rk, .slice oa on oc] 27 (0, 0))
theorem RBox.blk {w : World} {b : Nat} {rc rk : Int} {oa : Option Addr} {on oc : Nat} (h : RBox w b rc rk oa on oc) : Blk w b #[.int .i64 rc, .int .i64 rk, .slice oa on oc] := ⟨_, h⟩
theorem RBox.trow {w : World} {b : Nat} {rc rk : Int} {oa : Option Addr} {on oc : Nat} (h : RBox w b rc rk oa on oc) : TRow 27 w (some b) := fun g e _ => by
  cases e
  exact ⟨_, _, h⟩
theorem ownK_one {C : Nat} {w : World} {e k : Value} {x : Wk} (he : OwnI C w e x.E) (hk : OwnI C w k x.key) (hC : C ≤ w.heap.size) : OwnK C (w.alloc (.cells #[e, .int .i64 x.c, k] 39)) (.slice (some ⟨w.heap.size, 0, none⟩) 1 1) [x] := by
  refine ⟨fun j => if j = 0 then e else if j = 1 then .int .i64 x.c else k, ⟨by simp, Or.inr ⟨w.heap.size, 1, #[e, .int .i64 x.c, k], rfl, hC, ?_, Nat.le_refl _, by simp [maxLen], by simp, by simp [List.range_succ]⟩⟩, fun i hi => ?_⟩
  · show (w.heap.push _)[w.heap.size]? = _
    rw [Array.getElem?_push, if_pos rfl]
  · have : i = 0 := by simpa using hi
    subst this
    exact ⟨he.next (box1 _ _), rfl, hk.next (box1 _ _)⟩
/-- the search under way: the walks of r edges are done -/
structure ST (G : Gr) (s0 : Nat) (w0 : Int) (t : Int) (C b r : Nat) (wA w : World) (fv sv : Value) (seen front : List Wk) (best : Rt) (rc rk : Int) (oa : Option Addr) (on oc : Nat) : Prop where
  of : OwnK C w fv front
  os : OwnK C w sv seen
  kp : KP seen
  kf : KP front
  lv : LV (eoG G) (arcsG G) s0 w0 t r seen front best
  ap : ∀ g, sv.ownBlock = some g → fv.ownBlock ≠ some g
  sb : ∀ g, sv.ownBlock = some g → g ≠ b
  bx : RBox w b rc rk oa on oc
  rt : HRt C w rc rk oa on oc best
  nx : Nx wA w
theorem ST.next {G : Gr} {s0 : Nat} {w0 t : Int} {C b r : Nat} {wA w w' : World} {fv sv : Value} {seen front : List Wk} {best : Rt} {rc rk : Int} {oa : Option Addr} {on oc : Nat} (h : ST G s0 w0 t C b r wA w fv sv seen front best rc rk oa on oc) (k : Nx w w') : ST G s0 w0 t C b r wA w' fv sv seen front best rc rk oa on oc :=
  ⟨h.of.next k, h.os.next k, h.kp, h.kf, h.lv, h.ap, h.sb, (k.block b (Array.getElem?_eq_some_iff.1 h.bx).1).trans h.bx, ⟨h.rt.1, h.rt.2.1, h.rt.2.2.next k⟩, h.nx.trans k⟩
theorem ST.keys {G : Gr} (hG : VG G) {s0 : Nat} (hs : s0 < G.eo.length) {w0 t : Int} {C b r : Nat} {wA w : World} {fv sv : Value} {seen front : List Wk} {best : Rt} {rc rk : Int} {oa : Option Addr} {on oc : Nat} (h : ST G s0 w0 t C b r wA w fv sv seen front best rc rk oa on oc) : ∀ x ∈ seen, ∃ v : Nat, v < G.eo.length ∧ x.key = [(v : Int)] := fun x hx => by
  obtain ⟨v, e, hB⟩ := h.lv.s1 x hx
  exact ⟨v, hB.rw.bd hs (arcs_lt hG), e⟩
theorem ST.fkeys {G : Gr} (hG : VG G) {s0 : Nat} (hs : s0 < G.eo.length) {w0 t : Int} {C b r : Nat} {wA w : World} {fv sv : Value} {seen front : List Wk} {best : Rt} {rc rk : Int} {oa : Option Addr} {on oc : Nat} (h : ST G s0 w0 t C b r wA w fv sv seen front best rc rk oa on oc) : ∀ x ∈ front, ∃ v : Nat, v < G.eo.length ∧ x.key = [(v : Int)] := fun x hx => h.keys hG hs x ((h.lv.f x).1 hx).1
theorem ST.flen {G : Gr} (hG : VG G) {s0 : Nat} (hs : s0 < G.eo.length) {w0 t : Int} {C b r : Nat} {wA w : World} {fv sv : Value} {seen front : List Wk} {best : Rt} {rc rk : Int} {oa : Option Addr} {on oc : Nat} (h : ST G s0 w0 t C b r wA w fv sv seen front best rc rk oa on oc) (hw : 0 ≤ w0 ∧ w0 ≤ 1048576) (hr : r ≤ 10000) {x : Wk} (hx : x ∈ front) : x.E.length = r ∧ 0 ≤ x.c ∧ x.c ≤ 40000000000 := by
  obtain ⟨h1, h2⟩ := (h.lv.f x).1 hx
  obtain ⟨v, _, hB⟩ := h.lv.s1 x h1
  have := wk_cost hG hw hB.rw
  rw [h2] at this
  omega
end Go.Proofs.Yticooljejlkbfaa
