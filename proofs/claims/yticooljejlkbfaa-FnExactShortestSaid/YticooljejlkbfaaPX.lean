import Derived.Test.YticooljejlkbfaaPW
namespace Go.Proofs.Yticooljejlkbfaa
open Go.RowKit Go.Sort Go.Maps Go.Shelf
set_option linter.unusedVariables false
set_option maxRecDepth 1000000

/-- a search abides the turn of marks -/
theorem SR.marks {C : Nat} {w w' : World} {Ds : List Nat} {sb p q mb rb n : Nat} {gv : List Value} {t : Int} {b : Rk} {iv sv : Value} {K : Nat → Rk} {L : List Nat} {D : DM} {S : List Nat} (h : SR C w sb p q mb rb n gv t b iv sv K L D S) (hm : ∀ E ∈ Ds, w.heap[E]? = some (.deferred (some []))) (ho : OnS Ds w w') : SR C w' sb p q mb rb n gv t b iv sv K L D S := by
  have kc : ∀ (g : Nat) (c : Array Value) (ty : TypeId) (fz : Nat × Nat), w.heap[g]? = some (.cells c ty fz) → w'.heap[g]? = w.heap[g]? := fun g c ty fz hc => ho.block g (Array.getElem?_eq_some_iff.1 hc).1 (fun e => by
    have := hm g e
    rw [hc] at this
    cases this)
  obtain ⟨es, clock, hb, rest⟩ := h.h.h.m
  obtain ⟨cr, hcr, _⟩ := h.k
  refine ⟨(kc _ _ _ _ h.x).trans h.x, h.s.kept (kc _ _ _ _ h.s.2), h.k.kept (kc _ _ _ _ hcr), ⟨⟨(kc _ _ _ _ h.h.h.q).trans h.h.h.q, h.h.h.i.kept (fun g e => ?_), ⟨es, clock, (ho.block mb (Array.getElem?_eq_some_iff.1 hb).1 (fun e => by have := hm mb e; rw [hb] at this; cases this)).trans hb, rest⟩⟩, h.h.o, h.h.j, h.h.p, h.h.v, h.h.s⟩, h.d.kept (fun g e => ?_), h.ap, h.cb⟩
  · obtain ⟨_, _, cur, hc⟩ := h.h.h.i.blk e
    exact kc _ _ _ _ hc
  · obtain ⟨_, _, cur, hc⟩ := h.d.blk e
    exact kc _ _ _ _ hc
/-- behind spread -/
def SPE (wC : World) (sb p q mb rb n : Nat) (a0 : Option Addr) (m0 c0 : Nat) (a1 : Option Addr) (m1 c1 : Nat) (a2 : Option Addr) (m2 c2 : Nat) (a3 : Option Addr) (m3 c3 : Nat) (a4 : Option Addr) (m4 c4 : Nat) (a5 : Option Addr) (m5 c5 : Nat) (a6 : Option Addr) (m6 c6 : Nat) (t : Int) (G : Gr) (s0 : Nat) (w0 : Int) (e : Ending) (W : World) : Prop :=
  Nx wC W ∧ ((e = .returned (.bool false) ∧ BestR t (fun c E => ∃ v, WK (eoG G) (arcsG G) s0 w0 E c v ∧ eoG G v = t) ⟨1, 0, []⟩) ∨
    (e = .returned (.bool true) ∧ ∃ sv iv S K L D v0, SR wC.heap.size W sb p q mb rb n [.slice a0 m0 c0, .slice a1 m1 c1, .slice a2 m2 c2, .slice a3 m3 c3, .slice a4 m4 c4, .slice a5 m5 c5, .slice a6 m6 c6] t (K v0) iv sv K L D S ∧ v0 < n ∧ DJ (eoG G) (arcsG G) s0 w0 t (arcsG G) K S (v0 :: L) ∧ (∀ y ∈ v0 :: L, ¬ rlt (K y) (K v0)) ∧ eoG G v0 = t))

set_option maxHeartbeats 16000000 in
theorem spread_any (wC w : World) (sb p q mb rb n : Nat) (a0 : Option Addr) (m0 c0 : Nat) (a1 : Option Addr) (m1 c1 : Nat) (a2 : Option Addr) (m2 c2 : Nat) (a3 : Option Addr) (m3 c3 : Nat) (a4 : Option Addr) (m4 c4 : Nat) (a5 : Option Addr) (m5 c5 : Nat) (a6 : Option Addr) (m6 c6 : Nat) (t : Int) (G : Gr) (B : Nat) (sn : Nat) (iv sv : Value) (D : DM) (HVG : Hid (VG G)) (HH : Hid (HG B wC (.slice a0 m0 c0) (.slice a1 m1 c1) (.slice a2 m2 c2) (.slice a3 m3 c3) (.slice a4 m4 c4) (.slice a5 m5 c5) (.slice a6 m6 c6) G)) (hnG : G.eo.length = n) (hsn : sn < G.sr.length) (hnx : Nx wC w) (h : SR wC.heap.size w sb p q mb rb n [.slice a0 m0 c0, .slice a1 m1 c1, .slice a2 m2 c2, .slice a3 m3 c3, .slice a4 m4 c4, .slice a5 m5 c5, .slice a6 m6 c6] t (0, 0) iv sv (fun _ => (0, 0)) [] D []) :
    Calls Try.prog 38 #[.pointer (some ⟨p, 0, none⟩), .int .i64 (sn : Int)] w fun e w' => SPE wC sb p q mb rb n a0 m0 c0 a1 m1 c1 a2 m2 c2 a3 m3 c3 a4 m4 c4 a5 m5 c5 a6 m6 c6 t G (stG G sn) (iat G.we sn) e w' := by
  have hn6 : n ≤ 6000 := by have := HVG.out.v; omega
  obtain ⟨hst, hsr, hse⟩ := st_lt HVG.out hsn
  have hwe := HVG.out.we sn hsn
  have H : Hid (SR wC.heap.size w sb p q mb rb n [.slice a0 m0 c0, .slice a1 m1 c1, .slice a2 m2 c2, .slice a3 m3 c3, .slice a4 m4 c4, .slice a5 m5 c5, .slice a6 m6 c6] t (0, 0) iv sv (fun _ => (0, 0)) [] D []) := h
  clear h
  refine (callsIn_wide (n := 9)).1 (callsIn_of_wp_marks Try.func38 rfl trivial ?_ rfl)
  simp only [Try.ntmps38, List.size_toArray, List.length_cons, List.length_nil, Nat.reduceAdd, Nat.reduceSub, Array.replicate_succ, Array.replicate_zero, List.push_toArray, List.append_toArray, List.nil_append, List.cons_append]
  refine wpIn_wide.2 ?_
  have HX1 : Hid (Nx w (w.alloc (.cells #[.pointer (some ⟨p, 0, none⟩)] 51))) := box1 _ _
  have HB1 : Hid (Blk (w.alloc (.cells #[.pointer (some ⟨p, 0, none⟩)] 51)) w.heap.size #[.pointer (some ⟨p, 0, none⟩)]) := Blk.new w _ _ _ rfl
  have hz1 : (w.alloc (.cells #[.pointer (some ⟨p, 0, none⟩)] 51)).heap.size = w.heap.size + 1 := size_alloc' _ _
  go_upto_region 1 with fail
  generalize w.alloc (.cells #[.pointer (some ⟨p, 0, none⟩)] 51) = w1 at *
  have hS1 := H.out.next HX1.out
  obtain ⟨k0, k1, k2, k3, k4, k5, k6⟩ := hS1.s.gcell
  have s0x : w1.cell? ⟨w.heap.size, 0, none⟩ = some (.pointer (some ⟨p, 0, none⟩)) := HB1.out.cell (i := 0) rfl
  have HX2 : Hid (Nx w1 (w1.alloc (.cells #[.slice a0 m0 c0, .slice a1 m1 c1, .slice a2 m2 c2, .slice a3 m3 c3, .slice a4 m4 c4, .slice a5 m5 c5, .slice a6 m6 c6] 29))) := box1 _ _
  have HB2 : Hid (Blk (w1.alloc (.cells #[.slice a0 m0 c0, .slice a1 m1 c1, .slice a2 m2 c2, .slice a3 m3 c3, .slice a4 m4 c4, .slice a5 m5 c5, .slice a6 m6 c6] 29)) w1.heap.size #[.slice a0 m0 c0, .slice a1 m1 c1, .slice a2 m2 c2, .slice a3 m3 c3, .slice a4 m4 c4, .slice a5 m5 c5, .slice a6 m6 c6]) := Blk.new w1 _ _ _ rfl
  have hz2 : (w1.alloc (.cells #[.slice a0 m0 c0, .slice a1 m1 c1, .slice a2 m2 c2, .slice a3 m3 c3, .slice a4 m4 c4, .slice a5 m5 c5, .slice a6 m6 c6] 29)).heap.size = w1.heap.size + 1 := size_alloc' _ _
  clear hS1
  go_upto_region 2 with fail
  clear k0 k1 k2 k3 k4 k5 k6
  generalize w1.alloc (.cells #[.slice a0 m0 c0, .slice a1 m1 c1, .slice a2 m2 c2, .slice a3 m3 c3, .slice a4 m4 c4, .slice a5 m5 c5, .slice a6 m6 c6] 29) = w2 at *
  have HS2 : Hid (SR wC.heap.size w2 sb p q mb rb n [.slice a0 m0 c0, .slice a1 m1 c1, .slice a2 m2 c2, .slice a3 m3 c3, .slice a4 m4 c4, .slice a5 m5 c5, .slice a6 m6 c6] t (0, 0) iv sv (fun _ => (0, 0)) [] D []) := (H.out.next HX1.out).next HX2.out
  have HN2 : Hid (Nx wC w2) := (hnx.trans HX1.out).trans HX2.out
  obtain ⟨e5, b5, o5, ha5, hc5⟩ := HH.out.h5.row (by omega)
  obtain ⟨e6, b6, o6, ha6, hc6⟩ := HH.out.h6.row (by have := HVG.out.lw; omega)
  subst ha5 ha6
  have hs5 : (sn : Int) < m5 := by omega
  have hs6 : (sn : Int) < m6 := by have := HVG.out.lw; omega
  have y5 : wC.cell? ⟨b5, o5 + sn, none⟩ = some (.int .i64 (stG G sn : Int)) := by rw [← hsr]; exact hc5 sn hsn
  have y6 : wC.cell? ⟨b6, o6 + sn, none⟩ = some (.int .i64 (iat G.we sn)) := hc6 sn (by have := HVG.out.lw; omega)
  have Y5 : Hid (wC.cell? ⟨b5, o5 + sn, none⟩ = some (.int .i64 (stG G sn : Int))) := y5
  have Y6 : Hid (wC.cell? ⟨b6, o6 + sn, none⟩ = some (.int .i64 (iat G.we sn))) := y6
  have v5 := cellq HN2.out y5
  have v6 := cellq HN2.out y6
  have vx := cellq HX2.out s0x
  have g5c : w2.cell? ⟨w.heap.size + 1, 5, none⟩ = some (.slice (some ⟨b5, o5, none⟩) m5 c5) := by rw [← hz1]; exact HB2.out.cell (i := 5) rfl
  have g6c : w2.cell? ⟨w.heap.size + 1, 6, none⟩ = some (.slice (some ⟨b6, o6, none⟩) m6 c6) := by rw [← hz1]; exact HB2.out.cell (i := 6) rfl
  have HNS : Hid (w.heap.size ∉ sbl q mb rb iv ∧ w.heap.size + 1 ∉ sbl q mb rb iv ∧ ∀ z, z < wC.heap.size → z ∉ sbl q mb rb iv) := by
    have hq := (Array.getElem?_eq_some_iff.1 H.out.h.h.q).1
    have hr := H.out.k.lt
    obtain ⟨es, clock, hmp, _⟩ := H.out.h.h.m
    have hm := (Array.getElem?_eq_some_iff.1 hmp).1
    have hcb := H.out.cb
    have key : ∀ z, (∀ y, (y = rb ∨ y = q ∨ y = mb ∨ iv.ownBlock = some y) → y ≠ z) → z ∉ sbl q mb rb iv := fun z hz hmz => by
      simp only [sbl, hbl, List.mem_cons, Option.mem_toList] at hmz
      rcases hmz with e | e | e | e
      · exact hz z (Or.inl e) rfl
      · exact hz z (Or.inr (Or.inl e)) rfl
      · exact hz z (Or.inr (Or.inr (Or.inl e))) rfl
      · exact hz z (Or.inr (Or.inr (Or.inr e))) rfl
    have low : ∀ y, (y = rb ∨ y = q ∨ y = mb ∨ iv.ownBlock = some y) → y < w.heap.size ∧ wC.heap.size ≤ y := fun y hy => by
      rcases hy with e | e | e | e
      · omega
      · omega
      · omega
      · have := H.out.h.h.i.blk e; omega
    exact ⟨key _ (fun y hy => by have := low y hy; omega), key _ (fun y hy => by have := low y hy; omega), fun z hz => key _ (fun y hy => by have := low y hy; omega)⟩
  have HC2 : Hid (wC.heap.size ≤ w2.heap.size) := HN2.out.size
  have HZ1 : Hid (w1.heap.size = w.heap.size + 1) := hz1
  have HZ2 : Hid (w2.heap.size = w1.heap.size + 1) := hz2
  have hst6 : stG G sn ≤ 6000 := by omega
  have HSE : Hid (eoG G (stG G sn) = sn) := hse
  have HST : Hid (stG G sn < n) := by unfold Hid; omega
  clear hz1 hz2 e5 e6 hsr hse y5 y6 hc5 hc6 s0x
  go_region_held3 (fun w' => w'.cell? ⟨w.heap.size, 0, none⟩ = some (.pointer (some ⟨p, 0, none⟩)) ∧ w'.cell? ⟨w.heap.size + 1, 5, none⟩ = some (.slice (some ⟨b5, o5, none⟩) m5 c5) ∧ w'.cell? ⟨w.heap.size + 1, 6, none⟩ = some (.slice (some ⟨b6, o6, none⟩) m6 c6) ∧ w'.cell? ⟨b5, o5 + sn, none⟩ = some (.int .i64 (stG G sn : Int)) ∧ w'.cell? ⟨b6, o6 + sn, none⟩ = some (.int .i64 (iat G.we sn))) (first | exact ⟨t1, t2, t3, t4, t5⟩ | (go_keep; done)) (first | (go_at_call 52; refine (reach_any wC.heap.size sb p q mb rb n _ t (0, 0) iv sv (fun _ => (0, 0)) [] D [] (stG G sn) (iat G.we sn, 1) _ (by exact HS2.out.next (Nx.refl _).drew) HST.out hn6 (fun h => by simp at h) (by exact HC2.out)).mono ?_; rintro e w3 ⟨z, iv3, K3, L3, D3, rfl, hRC⟩; have HRC : Hid (RC wC.heap.size w2.drew w3 sb p q mb rb n _ t (0, 0) iv sv (fun _ => (0, 0)) [] [] (stG G sn) (iat G.we sn, 1) iv3 K3 L3 D3) := hRC; have t1 := hRC.on.cell HNS.out.1 (by exact vx); have t2 := hRC.on.cell HNS.out.2.1 (by exact g5c); have t3 := hRC.on.cell HNS.out.2.1 (by exact g6c); have t4 := hRC.on.cell (HNS.out.2.2 b5 (cell_lt Y5.out)) (by exact v5); have t5 := hRC.on.cell (HNS.out.2.2 b6 (cell_lt Y6.out)) (by exact v6); clear hRC))
  have hy := HRC.out.y (Or.inl rfl)
  have HX3 : Hid (SPX wC sb p q mb rb n a0 m0 c0 a1 m1 c1 a2 m2 c2 a3 m3 c3 a4 m4 c4 (some ⟨b5, o5, none⟩) m5 c5 (some ⟨b6, o6, none⟩) m6 c6 t (0, 0) G (stG G sn) (iat G.we sn) w.heap.size (w.heap.size + 1) w3 [] sv iv3 [] K3 L3 D3) := by
    have hq := (Array.getElem?_eq_some_iff.1 H.out.h.h.q).1
    have hr := H.out.k.lt
    obtain ⟨es, clock, hmp, _⟩ := H.out.h.h.m
    have hm := (Array.getElem?_eq_some_iff.1 hmp).1
    have hp := H.out.s.lt
    have h1 := HZ1.out
    have h2 := HZ2.out
    refine ⟨HRC.out.s, t1, ?_, fun g e => ?_, fun g e => ?_, by simp, by simp, by simp, ?_, by simp; omega, by simp; omega, by omega, by omega⟩
    · obtain ⟨ty, hb⟩ := HB2.out
      refine ⟨ty, (HRC.out.on.block (w.heap.size + 1) (by show w.heap.size + 1 < w2.heap.size; omega) HNS.out.2.1).trans ?_⟩
      rw [← h1]
      exact hb
    · rcases HRC.out.b g e with q1 | q1
      · have := (H.out.h.h.i.blk q1).2.1
        exact ⟨by omega, by omega⟩
      · have : w2.heap.size ≤ g := q1
        exact ⟨by omega, by omega⟩
    · have := (H.out.d.blk e).2.1
      exact ⟨by omega, by omega⟩
    · exact Below.trans (HN2.out.drew) (HRC.out.on.below HC2.out (fun z hz => Classical.byContradiction fun hlt => HNS.out.2.2 z (by omega) hz))
  have HDJ3 : Hid (DJ (eoG G) (arcsG G) (stG G sn) (iat G.we sn) t (arcsG G) K3 [] L3) := (DJ.start (arcsG G) (fun v hv => hy.2.1 v hv) hy.1).perm HRC.out.s.h.j.nodup (fun y => by rw [hy.2.2]; simp)
  have hL3 : stG G sn ∈ L3 := (hy.2.2 _).2 (Or.inr rfl)
  obtain ⟨zk, hzk⟩ : ∃ zk, L3.length = zk + 1 := ⟨L3.length - 1, by have := List.length_pos_of_mem hL3; omega⟩
  have HZK : Hid (L3.length = zk + 1) := hzk
  have x3 := HX3.out.x
  have p9 := HX3.out.s.s.cell.2.2.1
  clear t1 t2 t3 t4 t5 v5 v6 vx g5c g6c hy hL3 hzk HRC HNS
  go_wp2_with fail
  refine (take_yes wC.heap.size q sb mb p rb n iv3 K3 L3 D3 zk _ (by exact HX3.out.s.h) HZK.out (by exact HX3.out.s.cm) hn6 (by exact HX3.out.s.sep.1)).mono ?_
  rintro e w4 ⟨iv4, L4, D4, rfl, hTK⟩
  have HX4 := HX3.out.taken hTK
  have hl0 : lat L3 0 ∈ L3 := lat_mem (by have := HZK.out; omega)
  have hmem : ∀ y, y ∈ lat L3 0 :: L4 ↔ y ∈ L3 := fun y => by
    rw [List.mem_cons, hTK.e]
    constructor
    · rintro (e | e)
      · rw [e]; exact hl0
      · exact e.1
    · intro h
      by_cases e : y = lat L3 0
      · exact Or.inl e
      · exact Or.inr ⟨h, e⟩
  have HDJ4 := HDJ3.out.perm (O' := lat L3 0 :: L4) (by
    rw [List.nodup_cons]
    exact ⟨fun g => ((hTK.e _).1 g).2 rfl, hTK.h.j.nodup⟩) hmem
  have hmin : ∀ y ∈ lat L3 0 :: L4, ¬ rlt (K3 y) (K3 (lat L3 0)) := fun y hy => by
    obtain ⟨i, hi, rfl⟩ := mem_lat.1 ((hmem y).1 hy)
    exact HX3.out.s.h.o.root i hi
  have hlt : lat L3 0 < n := HX3.out.s.h.v _ hl0
  clear x3 p9 hTK
  go_wp2
  refine spread_loop wC sb p q mb rb n a0 m0 c0 a1 m1 c1 a2 m2 c2 a3 m3 c3 a4 m4 c4 (some ⟨b5, o5, none⟩) m5 c5 (some ⟨b6, o6, none⟩) m6 c6 t (0, 0) G (stG G sn) (iat G.we sn) w.heap.size (w.heap.size + 1) B HVG HH hnG hn6 hwe (by rw [hnG]; exact HST.out) _ ?_ ?_ _ _ ⟨_, _, [], _, _, _, _, _, _, _, _, _, _, _, _, _, _, _, _, _, _, _, _, _, _, _, _, _, _, _, _, _, _, _, _, _, _, _, _, _, _, _, _, _, _, _, _, _, _, _, _, _, _, _, _, _, _, _, _, _, _, _, _, _, _, _, _, _, _, _, _, _, _, _, _, _, _, _, _, _, _, _, ⟨sv, iv4, [], K3, L4, D4, HX4, Or.inr ⟨lat L3 0, rfl, rfl, hlt, HDJ4, hmin⟩⟩, rfl⟩
  · intro x6 x7 Ds u0 u1 u3 u4 u8 u9 u10 u11 u12 u13 u14 u15 u16 u17 u18 u19 u20 u21 u22 u23 u24 u25 u26 u27 u28 u29 u30 u31 u32 u33 u34 u35 u36 u37 u38 u39 u40 u41 u42 u43 u44 u45 u46 u47 u48 u49 u50 u51 u52 u53 u54 u55 u56 u57 u58 u59 u60 u61 u62 u63 u64 u65 u66 u67 u68 u69 u70 u71 u72 u73 u74 u75 u76 u77 u78 u79 u80 u81 u82 W sv' iv' S' K' L' D' hX hD
    have hB := hD.none (fun v u k h => (arcs_co HVG.out v u k h).1)
    go_wp2
    refine leaves_marks Ds W hX.nd hX.m (fun W' ho => ?_)
    refine ⟨_, results_tmp rfl _ _ _, Below.trans hX.nx (ho.below hX.nx.size (fun z hz => ?_)), Or.inl ⟨rfl, hB⟩⟩
    exact hX.ml z hz
  · intro x6 x7 Ds u0 u1 u3 u8 u9 u10 u11 u12 u13 u14 u15 u16 u17 u18 u19 u20 u21 u22 u23 u24 u25 u26 u27 u28 u29 u30 u31 u32 u33 u34 u35 u36 u37 u38 u39 u40 u41 u42 u43 u44 u45 u46 u47 u48 u49 u50 u51 u52 u53 u54 u55 u56 u57 u58 u59 u60 u61 u62 u63 u64 u65 u66 u67 u68 u69 u70 u71 u72 u73 u74 u75 u76 u77 u78 u79 u80 u81 u82 W sv' iv' S' K' L' D' v0 hX hv0 hD hle he
    refine leaves_marks Ds W hX.nd hX.m (fun W' ho => ?_)
    refine ⟨_, results_tmp rfl _ _ _, Below.trans hX.nx (ho.below hX.nx.size (fun z hz => ?_)), Or.inr ⟨rfl, sv', iv', S', K', L', D', v0, hX.s.marks hX.m ho, hv0, hD, hle, he⟩⟩
    exact hX.ml z hz
end Go.Proofs.Yticooljejlkbfaa
