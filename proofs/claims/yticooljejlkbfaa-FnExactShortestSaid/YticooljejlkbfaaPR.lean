import Derived.Test.YticooljejlkbfaaPP
namespace Go.Proofs.Yticooljejlkbfaa
open Go.RowKit Go.Sort Go.Maps Go.Shelf
set_option linter.unusedVariables false
set_option maxRecDepth 100000

/-- the arcs of a vertex, each with its rank -/
abbrev ArcX (G : Gr) (r : Rk) (v : Nat) : Type := { x : Nat × Rk // okX G r v x }
/-- **the arcs of a vertex, as a sequence**: for every loop whose rounds keep what the iterator reads -/
theorem onward_stops (bg bv bs p rb n v b2 o2 m2 c2 : Nat) (a3 : Option Addr) (m3 c3 : Nat) (a4 : Option Addr) (m4 c4 : Nat) (G : Gr) (r : Rk) (N d : Nat) (hG : VG G) (hv : v < G.eo.length) (hm2 : m2 = G.fi.length) (hm3 : m3 = G.tt.length) (hm4 : m4 = G.co.length) (hvn : v < n) (hr1 : 0 ≤ r.1 ∧ r.1 ≤ 100000000000) (hr2 : 0 ≤ r.2 ∧ r.2 ≤ 100000) (hN : fst G (v + 1) - fst G v ≤ N) (w : World) (hI : ITC w bg bv bs p rb n v b2 o2 m2 c2 a3 m3 c3 a4 m4 c4 G r) :
    SeqStopsK Fence.wide d Try.prog 65 #[.pointer (some ⟨bg, 0, none⟩), .pointer (some ⟨bv, 0, none⟩), .pointer (some ⟨bs, 0, none⟩)] (fun x : ArcX G r v => encA x.1) (fun W W' => ITC W bg bv bs p rb n v b2 o2 m2 c2 a3 m3 c3 a4 m4 c4 G r → ITC W' bg bv bs p rb n v b2 o2 m2 c2 a3 m3 c3 a4 m4 c4 G r) (fun ys => ys.map (·.1) = outK G r v (fst G (v + 1))) (fun pre => ∃ k, fst G v ≤ k ∧ k < fst G (v + 1) ∧ pre.map (·.1) = outK G r v (k + 1)) N w := by
  intro l J Jx W hW hJ hJx hY h0
  refine callsIn_wide.2 ((onward1_in l bg bv bs p rb n v b2 o2 m2 c2 a3 m3 c3 a4 m4 c4 G r N (d - 1) (fun ys W => ∃ zs : List (ArcX G r v), zs.map (·.1) = ys ∧ J zs W) (fun ys W => ∃ zs : List (ArcX G r v), zs.map (·.1) = ys ∧ Jx zs W) hG hv hm2 hm3 hm4 hvn hr1 hr2 hN W ?_ ?_ (hI.kept (fun b o u h => cell_next hW (cell_lt h) h)) ⟨[], rfl, h0⟩).mono ?_)
  · rintro s X Y row ⟨zs, e, hz⟩ hg hr
    exact ⟨zs, e, hJ zs X Y row hz hg hr⟩
  · rintro pre x X hx ⟨zs, e, hz⟩ hl
    refine (hY zs ⟨x, hx⟩ X hz (by rw [← e] at hl; simpa using hl)).mono (fun e' X' h => ?_)
    rcases h with ⟨h1, h2, h3⟩ | ⟨h1, h2⟩
    · exact Or.inl ⟨h1, ⟨zs ++ [⟨x, hx⟩], by rw [List.map_append, e]; rfl, h2⟩, h3⟩
    · exact Or.inr ⟨h1, ⟨zs ++ [⟨x, hx⟩], by rw [List.map_append, e]; rfl, h2⟩⟩
  · rintro e X ⟨he, h⟩
    refine ⟨he, ?_⟩
    rcases h with ⟨ys, rfl, zs, ez, hz⟩ | ⟨pre, ⟨k, h1, h2, rfl⟩, zs, ez, hz⟩
    · exact Or.inl ⟨zs, ez, hz⟩
    · exact Or.inr ⟨zs, ⟨k, h1, h2, ez⟩, hz⟩
theorem itc_put (bg bv bs p rb n v b2 o2 m2 c2 : Nat) (a3 : Option Addr) (m3 c3 : Nat) (a4 : Option Addr) (m4 c4 : Nat) (G : Gr) (r : Rk) (W : World) (l : Nat) (o o' : Obj) (h : W.heap[l]? = some o) (ho : o.isCells = false) (hI : ITC W bg bv bs p rb n v b2 o2 m2 c2 a3 m3 c3 a4 m4 c4 G r) : ITC (W.putObj l o') bg bv bs p rb n v b2 o2 m2 c2 a3 m3 c3 a4 m4 c4 G r :=
  hI.kept (fun b q u hc => cell_kept hc (grownBy_putObj' W l o') (fun k e => by cases e; exact ⟨o, h, ho⟩))
/-- the marks of loops over functions -/
def mark (D : Nat) : Deferred := { target := .collected D, args := #[] }
theorem leaves_marks {F : Fence} {n : Nat} {P : Program} {fn : Func} {tmps : Array Value} {R : Ending → World → Prop} : ∀ (Ds : List Nat) (w : World), Ds.Nodup → (∀ D ∈ Ds, w.heap[D]? = some (.deferred (some []))) → (∀ w', OnS Ds w w' → LeavesInM F n P fn tmps R [] .returning w') → LeavesInM F n P fn tmps R (Ds.map mark) .returning w
  | [], w, _, _, h => h w (OnS.refl _ _)
  | D :: Ds, w, hn, hd, h => by
    have hD := hd D (by simp)
    have hnd := List.nodup_cons.1 hn
    refine ⟨by simp, Or.inl ⟨D, _, rfl, run_takeDeferred hD, ?_⟩⟩
    refine leaves_marks Ds _ hnd.2 (fun E hE => ?_) (fun w' hw' => h w' ?_)
    · have hne : E ≠ D := fun e => hnd.1 (by rw [← e]; exact hE)
      exact (World.putObj_heap_other hne).trans (hd E (by simp [hE]))
    · have h1 : OnS (D :: Ds) w (w.putObj D (.deferred none)) := ⟨rfl, rfl, rfl, by simp, fun b hb hn => World.putObj_heap_other (fun e => hn (by rw [e]; simp))⟩
      exact h1.tr (hw'.mono (fun x hx => List.mem_cons_of_mem _ hx))
/-- a search abides the turn of what is no cells, beyond its map -/
theorem SR.grown {C : Nat} {w w' : World} {row : Option Nat} {sb p q mb rb n : Nat} {gv : List Value} {t : Int} {b : Rk} {iv sv : Value} {K : Nat → Rk} {L : List Nat} {D : DM} {S : List Nat} (h : SR C w sb p q mb rb n gv t b iv sv K L D S) (hg : w.grownBy w' row) (hr : ∀ r, row = some r → mb < r ∧ ∃ o : Obj, w.heap[r]? = some o ∧ o.isCells = false) : SR C w' sb p q mb rb n gv t b iv sv K L D S := by
  have kc : ∀ (g : Nat) (c : Array Value) (ty : TypeId) (fz : Nat × Nat), w.heap[g]? = some (.cells c ty fz) → w'.heap[g]? = w.heap[g]? := fun g c ty fz hc => hg.block g (Array.getElem?_eq_some_iff.1 hc).1 (fun e => by
    obtain ⟨_, o, ho, hno⟩ := hr g e.symm
    rw [hc] at ho
    cases ho
    cases hno)
  have km : w'.heap[mb]? = w.heap[mb]? := by
    obtain ⟨es, clock, hb, _⟩ := h.h.h.m
    exact hg.block mb (Array.getElem?_eq_some_iff.1 hb).1 (fun e => by have := (hr mb e.symm).1; omega)
  obtain ⟨cr, hcr, _⟩ := h.k
  refine ⟨(kc _ _ _ _ h.x).trans h.x, h.s.kept (kc _ _ _ _ h.s.2), h.k.kept (kc _ _ _ _ hcr), ⟨⟨(kc _ _ _ _ h.h.h.q).trans h.h.h.q, h.h.h.i.kept (fun g e => ?_), ?_⟩, h.h.o, h.h.j, h.h.p, h.h.v, h.h.s⟩, h.d.kept (fun g e => ?_), h.ap, h.cb⟩
  · obtain ⟨_, _, cur, hc⟩ := h.h.h.i.blk e
    exact kc _ _ _ _ hc
  · obtain ⟨es, clock, hb, rest⟩ := h.h.h.m
    exact ⟨es, clock, km.trans hb, rest⟩
  · obtain ⟨_, _, cur, hc⟩ := h.d.blk e
    exact kc _ _ _ _ hc
end Go.Proofs.Yticooljejlkbfaa

namespace Go.Proofs.Yticooljejlkbfaa
open Go.RowKit Go.Sort Go.Maps Go.Shelf
set_option linter.unusedVariables false
set_option maxRecDepth 100000

/-- the arcs of the settled that are gone on: of v those that have come -/
def Apre (G : Gr) (r : Rk) (v : Nat) (pre : List (Nat × Rk)) (u : Nat) : List (Nat × Int) := if u = v then (arcsG G v).filter (fun a => decide ((a.1, aft r a.2) ∈ pre)) else arcsG G u
theorem aft_inj {r : Rk} {a b : Int} (h : aft r a = aft r b) : a = b := by
  have := congrArg Prod.fst h
  simp only [aft] at this
  omega
theorem okX_arc {G : Gr} (hG : VG G) {r : Rk} {v : Nat} (hv : v < G.eo.length) {x : Nat × Rk} (h : okX G r v x) : ∃ k, (x.1, k) ∈ arcsG G v ∧ x.2 = aft r k := by
  obtain ⟨k, h1, h2, rfl⟩ := h
  exact ⟨iat G.co k, (arcs_iff hG).2 ⟨hv, k, h1, h2, rfl, rfl⟩, rfl⟩
theorem apre_step {G : Gr} {r : Rk} {v tu : Nat} {k : Int} {pre : List (Nat × Rk)} {u : Nat} {z : Nat × Int} (h : z ∈ Apre G r v (pre ++ [(tu, aft r k)]) u) : z ∈ Apre G r v pre u ∨ (u = v ∧ z = (tu, k)) := by
  unfold Apre at h ⊢
  by_cases e : u = v
  · rw [if_pos e] at h ⊢
    rw [List.mem_filter] at h ⊢
    obtain ⟨h1, h2⟩ := h
    simp at h2
    rcases h2 with h2 | ⟨h2, h3⟩
    · exact Or.inl ⟨h1, by simpa using h2⟩
    · exact Or.inr ⟨e, Prod.ext h2 (aft_inj h3)⟩
  · rw [if_neg e] at h ⊢
    exact Or.inl h
theorem apre_all {G : Gr} (hG : VG G) {r : Rk} {v : Nat} {u : Nat} {z : Nat × Int} (h : z ∈ arcsG G u) : z ∈ Apre G r v (outK G r v (fst G (v + 1))) u := by
  unfold Apre
  by_cases e : u = v
  · rw [if_pos e]
    subst e
    rw [List.mem_filter]
    refine ⟨h, ?_⟩
    obtain ⟨hv, k, h1, h2, e1, e2⟩ := (arcs_iff hG).1 (show (z.1, z.2) ∈ arcsG G u from h)
    simp only [decide_eq_true_eq]
    unfold outK
    rw [List.mem_map]
    exact ⟨k, by rw [List.mem_range'_1]; omega, by rw [e1, e2]⟩
  · rw [if_neg e]
    exact h
/-- one arc is gone on -/
theorem relax {G : Gr} (hG : VG G) {s0 : Nat} {w0 t : Int} {C : Nat} {w w' : World} {sb p q mb rb n : Nat} {gv : List Value} {b : Rk} {iv sv iv' : Value} {K K' : Nat → Rk} {L L' S : List Nat} {D' : DM} {v tu : Nat} {k : Int} {r : Rk} {pre : List (Nat × Rk)} {T : Int}
    (h : DJ (eoG G) (arcsG G) s0 w0 t (Apre G r v pre) K (S ++ [v]) L) (hv : K v = r) (hx : (tu, k) ∈ arcsG G v) (hR : RC C w w' sb p q mb rb n gv T b iv sv K L (S ++ [v]) tu (aft r k) iv' K' L' D') : DJ (eoG G) (arcsG G) s0 w0 t (Apre G r v (pre ++ [(tu, aft r k)])) K' (S ++ [v]) L' ∧ K' v = r := by
  have hc : ∀ v u k, (u, k) ∈ arcsG G v → 0 ≤ k := fun v u k h => (arcs_co hG v u k h).1
  by_cases hb : better K tu (aft r k)
  · obtain ⟨h1, h2, h3⟩ := hR.y hb
    have hne : v ≠ tu := fun e => by
      rcases hb with q1 | q1
      · exact (h.dom v).2 (Or.inl (by simp)) (by rw [e]; exact q1)
      · rw [← e, hv] at q1
        exact rlt_not q1 (aft_gt r (hc _ _ _ hx))
    refine ⟨h.better hc hx (by rw [hv]; exact hb) (by rw [hv]; exact h1) h2 hR.s.h.j.nodup h3 (fun u hu z hz => apre_step hz), by rw [h2 v hne]; exact hv⟩
  · obtain ⟨h1, h2⟩ := hR.n hb
    subst h1 h2
    exact ⟨h.keep (by rw [hv]; exact hb) (fun u hu z hz => apre_step hz), hv⟩
theorem ITC.on {W W' : World} {bg bv bs p rb n v b2 o2 m2 c2 : Nat} {a3 : Option Addr} {m3 c3 : Nat} {a4 : Option Addr} {m4 c4 : Nat} {G : Gr} {r : Rk} {S : List Nat} (h : ITC W bg bv bs p rb n v b2 o2 m2 c2 a3 m3 c3 a4 m4 c4 G r) (k : OnS S W W') (n1 : bg ∉ S) (n2 : bv ∉ S) (n3 : bs ∉ S) (n4 : p ∉ S) (n5 : b2 ∉ S) (n6 : fst G v < fst G (v + 1) → ∀ b o, a3 = some ⟨b, o, none⟩ → b ∉ S) (n7 : fst G v < fst G (v + 1) → ∀ b o, a4 = some ⟨b, o, none⟩ → b ∉ S) (k1 : W'.cell? ⟨rb, v * 2, none⟩ = some (.int .i64 r.1)) (k2 : W'.cell? ⟨rb, v * 2 + 1, none⟩ = some (.int .i64 r.2)) : ITC W' bg bv bs p rb n v b2 o2 m2 c2 a3 m3 c3 a4 m4 c4 G r :=
  ⟨k.cell n1 h.g2, k.cell n1 h.g3, k.cell n1 h.g4, k.cell n2 h.hv, k.cell n3 h.hs, k.cell n4 h.hr, k1, k2, k.cell n5 h.f0, k.cell n5 h.f1, fun q h1 h2 => by obtain ⟨b, o, e, hc⟩ := h.t q h1 h2; exact ⟨b, o, e, k.cell (n6 (by omega) b o e) hc⟩, fun q h1 h2 => by obtain ⟨b, o, e, hc⟩ := h.c q h1 h2; exact ⟨b, o, e, k.cell (n7 (by omega) b o e) hc⟩⟩
/-- the loop over the arcs under way -/
structure RG (C : Nat) (W : World) (sb p q mb rb n : Nat) (gv : List Value) (t : Int) (b : Rk) (sv : Value) (G : Gr) (s0 : Nat) (w0 : Int) (S : List Nat) (v : Nat) (r : Rk) (bx bg bv bs g5 : Nat) (pre : List (Nat × Rk)) (iv : Value) (K : Nat → Rk) (L : List Nat) (D : DM) : Prop where
  s : SR C W sb p q mb rb n gv t b iv sv K L D (S ++ [v])
  j : DJ (eoG G) (arcsG G) s0 w0 t (Apre G r v pre) K (S ++ [v]) L
  k : K v = r
  i : ∀ g, iv.ownBlock = some g → g ≠ bx ∧ g ≠ bg ∧ g ≠ bv ∧ g ≠ bs ∧ g ≠ g5
  g : Blk W g5 (List.toArray gv)
  x : W.cell? ⟨bx, 0, none⟩ = some (.pointer (some ⟨p, 0, none⟩))
theorem RG.grown {C : Nat} {W W' : World} {row : Option Nat} {sb p q mb rb n : Nat} {gv : List Value} {t : Int} {b : Rk} {sv : Value} {G : Gr} {s0 : Nat} {w0 : Int} {S : List Nat} {v : Nat} {r : Rk} {bx bg bv bs g5 : Nat} {pre : List (Nat × Rk)} {iv : Value} {K : Nat → Rk} {L : List Nat} {D : DM} (h : RG C W sb p q mb rb n gv t b sv G s0 w0 S v r bx bg bv bs g5 pre iv K L D) (hg : W.grownBy W' row) (hr : ∀ r, row = some r → mb < r ∧ ∃ o : Obj, W.heap[r]? = some o ∧ o.isCells = false) : RG C W' sb p q mb rb n gv t b sv G s0 w0 S v r bx bg bv bs g5 pre iv K L D :=
  ⟨h.s.grown hg hr, h.j, h.k, h.i, (by
    obtain ⟨ty, hb⟩ := h.g
    refine ⟨ty, (hg.block g5 (Array.getElem?_eq_some_iff.1 hb).1 (fun e => ?_)).trans hb⟩
    obtain ⟨_, o, ho, hno⟩ := hr g5 e.symm
    rw [hb] at ho
    cases ho
    cases hno), cell_kept h.x hg (fun r e => (hr r e).2)⟩
end Go.Proofs.Yticooljejlkbfaa
