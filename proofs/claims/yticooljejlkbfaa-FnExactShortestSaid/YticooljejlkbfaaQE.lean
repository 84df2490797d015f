import Derived.Test.YticooljejlkbfaaQD
namespace Go.Proofs.Yticooljejlkbfaa
open Go.RowKit Go.Sort Go.Maps Go.Shelf
set_option linter.unusedVariables false
set_option maxRecDepth 1000000
attribute [local go_sem] Oper.semAt_some

theorem ITB.on {W W' : World} {bq : Nat} {sa : Option Addr} {cap : Nat} {S T : List Nat} (h : ITB W bq sa cap S) (k : OnS T W W') (h1 : bq ∉ T) (h2 : ∀ gs o, sa = some ⟨gs, o, none⟩ → gs ∉ T) : ITB W' bq sa cap S :=
  ⟨k.cell h1 h.b, fun i hi => by obtain ⟨gs, e, hc⟩ := h.r i hi; exact ⟨gs, e, k.cell (h2 gs 0 e) hc⟩⟩
theorem bk_all (S : List Nat) : ((bk S S.length).map (·.2)).reverse = S := by
  refine List.ext_getElem (by simp [bk]) (fun i h1 h2 => ?_)
  simp [bk]
  rw [show S.length - 1 - (S.length - 1 - i) = i by omega]
  simp [lat, h2]
theorem back_facts {S : List Nat} {K : Nat → Rk} (hnd : S.Nodup) (hasc : S.Pairwise (fun u v => ¬ rlt (K v) (K u))) {c : Nat} (hc : c < S.length) : lat S (S.length - 1 - c) ∉ ((bk S c).map (·.2)).reverse ∧ ∀ u ∈ ((bk S c).map (·.2)).reverse, ¬ rlt (K u) (K (lat S (S.length - 1 - c))) := by
  have key : ∀ u ∈ ((bk S c).map (·.2)).reverse, ∃ i j, i < j ∧ ∃ (hi : i < S.length) (hj : j < S.length), S[i] = lat S (S.length - 1 - c) ∧ S[j] = u := by
    intro u hu
    rw [List.mem_reverse] at hu
    obtain ⟨y, hy, rfl⟩ := List.mem_map.1 hu
    unfold bk at hy
    obtain ⟨d, hd, rfl⟩ := List.mem_map.1 hy
    have hd' := List.mem_range.1 hd
    refine ⟨S.length - 1 - c, S.length - 1 - d, by omega, by omega, by omega, ?_, ?_⟩
    · have : S.length - 1 - c < S.length := by omega
      simp [lat, this]
    · have : S.length - 1 - d < S.length := by omega
      simp [lat, this]
  refine ⟨fun h => ?_, fun u hu => ?_⟩
  · obtain ⟨i, j, hij, hi, hj, e1, e2⟩ := key _ h
    have := (List.pairwise_iff_getElem.1 hnd) i j hi hj hij
    exact this (e1.trans e2.symm)
  · obtain ⟨i, j, hij, hi, hj, e1, e2⟩ := key _ hu
    have := (List.pairwise_iff_getElem.1 hasc) i j hi hj hij
    rw [e1, e2] at this
    exact this
/-- between two vertices -/
def CI2 (w2 : World) (n g : Nat) (t : Int) (K : Nat → Rk) (b : Rk) (G : Gr) (S : List Nat) (pre : List (BackX S)) (W : World) : Prop :=
  ∃ N : List Int, N.length = n ∧ (pre.map (·.1) = bk S pre.length → NX (eoG G) (arcsG G) t K b ((pre.map (·.1.2)).reverse) (nfR N)) ∧ W.heap[g]? = some (.cells (icells N).toArray 2 (0, 0)) ∧ OnS [g] w2 W
theorem CI2.own {w2 : World} {n g : Nat} {t : Int} {K : Nat → Rk} {b : Rk} {G : Gr} {S : List Nat} (hg : g < w2.heap.size) : OwnFrom w2.heap.size (CI2 w2 n g t K b G S) := by
  rintro pre W W' row ⟨N, h1, h2, h3, h4⟩ hgr hr
  refine ⟨N, h1, h2, (hgr.block g (Array.getElem?_eq_some_iff.1 h3).1 (fun e => ?_)).trans h3, ⟨hgr.os.trans h4.os, hgr.tape.trans h4.tape, hgr.output.trans h4.output, Nat.le_trans h4.size hgr.size, fun i hi hm => (hgr.block i (Nat.lt_of_lt_of_le hi h4.size) (fun e => ?_)).trans (h4.block i hi hm)⟩⟩
  · have := (hr g e.symm).1
    omega
  · have := (hr i e.symm).1
    omega
theorem CI2.step {w2 : World} {n g : Nat} {t : Int} {K : Nat → Rk} {b : Rk} {G : Gr} {S : List Nat} (hG : VG G) (hnd : S.Nodup) (hasc : S.Pairwise (fun u v => ¬ rlt (K v) (K u))) {pre : List (BackX S)} {x : BackX S} {N N' : List Int} (hl : pre.length < S.length) (hN' : N'.length = n) (hNX : pre.map (·.1) = bk S pre.length → NX (eoG G) (arcsG G) t K b ((pre.map (·.1.2)).reverse) (nfR N)) {W : World} (hW : W.heap[g]? = some (.cells (icells N').toArray 2 (0, 0))) (ho : OnS [g] w2 W) (hne : ∀ y, y ≠ x.1.2 → nfR N' y = nfR N y)
    (hs : (∃ pr y k post, arcsG G x.1.2 = pr ++ (y, k) :: post ∧ okA (eoG G) t K b (nfR N) x.1.2 (y, k) ∧ (∀ q ∈ pr, ¬ okA (eoG G) t K b (nfR N) x.1.2 q) ∧ nfR N' x.1.2 = (y : Int)) ∨ (nfR N' x.1.2 = nfR N x.1.2 ∧ ∀ q ∈ arcsG G x.1.2, ¬ okA (eoG G) t K b (nfR N) x.1.2 q)) : CI2 w2 n g t K b G S (pre ++ [x]) W := by
  refine ⟨N', hN', fun hb => ?_, hW, ho⟩
  rw [List.length_append, List.length_singleton, bk_snoc, List.map_append] at hb
  obtain ⟨e1, e2⟩ := List.append_inj' hb rfl
  have e3 : x.1 = (S.length - 1 - pre.length, lat S (S.length - 1 - pre.length)) := by simpa using e2
  have hT : (pre.map (·.1.2)).reverse = ((bk S pre.length).map (·.2)).reverse := by rw [← e1, List.map_map]; rfl
  have hv : x.1.2 = lat S (S.length - 1 - pre.length) := by rw [e3]
  obtain ⟨f1, f2⟩ := back_facts hnd hasc hl
  rw [← hT, ← hv] at f1 f2
  have hX := hNX e1
  have e4 : ((pre ++ [x]).map (·.1.2)).reverse = x.1.2 :: (pre.map (·.1.2)).reverse := by simp
  rw [e4]
  refine hX.step (fun v u k h => (arcs_co hG v u k h).1) f1 f2 hne ?_
  rcases hs with h | ⟨h1, h2⟩
  · exact Or.inl h
  · exact Or.inr ⟨h1.trans (hX.out _ f1), h2⟩

set_option maxHeartbeats 16000000 in
theorem choose_outer (wC w2 : World) (p q rb n : Nat) (a0 : Option Addr) (m0 c0 : Nat) (a1 : Option Addr) (m1 c1 : Nat) (a2 : Option Addr) (m2 c2 : Nat) (a3 : Option Addr) (m3 c3 : Nat) (a4 : Option Addr) (m4 c4 : Nat) (a5 : Option Addr) (m5 c5 : Nat) (a6 : Option Addr) (m6 c6 : Nat) (t : Int) (sv : Value) (b : Rk) (K : Nat → Rk) (G : Gr) (B : Nat) (S : List Nat) (bS bN g bq : Nat) (sa : Option Addr) (cap : Nat) (HVG : Hid (VG G)) (HH : Hid (HG B wC (.slice a0 m0 c0) (.slice a1 m1 c1) (.slice a2 m2 c2) (.slice a3 m3 c3) (.slice a4 m4 c4) (.slice a5 m5 c5) (.slice a6 m6 c6) G)) (hnG : G.eo.length = n) (hn : n ≤ 6000) (HNX : Hid (Nx wC w2 ∧ wC.heap.size ≤ g))
    (HS : Hid (SB w2 p [.slice a0 m0 c0, .slice a1 m1 c1, .slice a2 m2 c2, .slice a3 m3 c3, .slice a4 m4 c4, .slice a5 m5 c5, .slice a6 m6 c6] t rb n q sv b)) (HK : Hid (RKM w2 rb n K)) (HB : Hid (w2.cell? ⟨bS, 0, none⟩ = some (.pointer (some ⟨p, 0, none⟩)) ∧ w2.cell? ⟨bN, 0, none⟩ = some (.slice (some ⟨g, 0, none⟩) n n))) (HN : Hid (w2.heap[g]? = some (.cells (icells (List.replicate n (-1))).toArray 2 (0, 0)))) (HIT : Hid (ITB w2 bq sa cap S))
    (HSEP : Hid ((bS ≠ g ∧ bN ≠ g ∧ p ≠ g ∧ rb ≠ g ∧ bq ≠ g) ∧ ∀ gs o, sa = some ⟨gs, o, none⟩ → gs ≠ g)) (hSl : S.length ≤ 6000) (HSn : Hid (∀ v ∈ S, v < n)) (HRB : Hid (∀ v ∈ S, (0 ≤ (K v).1 ∧ (K v).1 ≤ 100000000000) ∧ (0 ≤ (K v).2 ∧ (K v).2 ≤ 100000))) (HND : Hid (S.Nodup)) (HASC : Hid (S.Pairwise (fun u v => ¬ rlt (K v) (K u))))
    (u0 u2 u4 u5 u6 u7 u8 u9 u10 u11 u12 u13 u14 u15 u16 u17 u18 u20 u21 u22 u23 u24 u25 u26 u27 u28 u29 u30 u31 u32 u33 u34 u35 u36 u37 u38 u39 u40 u41 u42 u43 u44 u45 u46 u47 u48 u49 u50 u51 u52 : Value) (ds : List Deferred) (Q : Exit → Act → World → Prop)
    (hdone : ∀ (E : Nat) (N : List Int) (W : World), w2.heap.size ≤ E → N.length = n → NX (eoG G) (arcsG G) t K b S (nfR N) → W.heap[g]? = some (.cells (icells N).toArray 2 (0, 0)) → OnS [g] w2 W → W.heap[E]? = some (.deferred (some [])) → Q .normal ⟨List.toArray (u0 :: .pointer (some ⟨bS, 0, none⟩) :: u2 :: .pointer (some ⟨bN, 0, none⟩) :: u4 :: u5 :: u6 :: u7 :: u8 :: u9 :: u10 :: u11 :: u12 :: u13 :: u14 :: u15 :: u16 :: u17 :: u18 :: .func (.func 72) #[] #[.pointer (some ⟨bq, 0, none⟩)] :: u20 :: u21 :: u22 :: u23 :: u24 :: u25 :: u26 :: u27 :: u28 :: u29 :: u30 :: u31 :: u32 :: u33 :: u34 :: u35 :: u36 :: u37 :: u38 :: u39 :: u40 :: u41 :: u42 :: u43 :: u44 :: u45 :: u46 :: u47 :: u48 :: u49 :: u50 :: u51 :: u52 :: []), mark E :: ds⟩ W) :
    Code.wp Try.prog ((((Try.f55.body.map rangesOf).getD [])[0]?).getD .skip) Q ⟨List.toArray (u0 :: .pointer (some ⟨bS, 0, none⟩) :: u2 :: .pointer (some ⟨bN, 0, none⟩) :: u4 :: u5 :: u6 :: u7 :: u8 :: u9 :: u10 :: u11 :: u12 :: u13 :: u14 :: u15 :: u16 :: u17 :: u18 :: .func (.func 72) #[] #[.pointer (some ⟨bq, 0, none⟩)] :: u20 :: u21 :: u22 :: u23 :: u24 :: u25 :: u26 :: u27 :: u28 :: u29 :: u30 :: u31 :: u32 :: u33 :: u34 :: u35 :: u36 :: u37 :: u38 :: u39 :: u40 :: u41 :: u42 :: u43 :: u44 :: u45 :: u46 :: u47 :: u48 :: u49 :: u50 :: u51 :: u52 :: []), ds⟩ w2 := by
  conv => arg 2; whnf
  have HDONE : Hid _ := hdone
  clear hdone
  have hgl : g < w2.heap.size := (Array.getElem?_eq_some_iff.1 HN.out).1
  refine (wpIn_wide (n := 9)).1 ?_
  refine wpIn_rangeFunc_ownH (n := 9) (F := Fence.wide) rfl (by decide) (gf := 72) (lb := #[.pointer (some ⟨bq, 0, none⟩)]) rfl trivial (enters_of Try.func72 (by kernel_rfl) rfl)
    (back_stops 7 bq sa cap S (by omega) w2 HIT.out) (fun h1 h2 h3 => h2 (h1 h3)) (fun W l o o' _ h ho _ hI => hI.kept (fun b q u hc => cell_kept hc (grownBy_putObj' W l o') (fun k e => by cases e; exact ⟨o, h, ho⟩))) (Below.refl _ _) (fun _ => rfl)
    (CI2 w2 n g t K b G S) (fun _ _ _ => False) (CI2.own hgl) (fun _ _ _ _ _ h _ _ => h) ⟨List.replicate n (-1), by simp, fun _ => NX.start _ _ _ _ _ (nfR_rep n), HN.out, OnS.refl _ _⟩
    (fun x a' W => ∃ Bv, W.cell? ⟨Bv, 0, none⟩ = some (.int .i64 (x.1.2 : Int)) ∧ a' = ⟨List.toArray (u0 :: .pointer (some ⟨bS, 0, none⟩) :: u2 :: .pointer (some ⟨bN, 0, none⟩) :: u4 :: .pointer (some ⟨Bv, 0, none⟩) :: u6 :: u7 :: u8 :: u9 :: u10 :: u11 :: u12 :: u13 :: u14 :: u15 :: u16 :: u17 :: u18 :: .func (.func 72) #[] #[.pointer (some ⟨bq, 0, none⟩)] :: .int .i64 (x.1.1 : Int) :: .int .i64 (x.1.2 : Int) :: u22 :: u23 :: u24 :: u25 :: u26 :: u27 :: u28 :: u29 :: u30 :: u31 :: u32 :: u33 :: u34 :: u35 :: u36 :: u37 :: u38 :: u39 :: u40 :: u41 :: u42 :: u43 :: u44 :: u45 :: u46 :: u47 :: u48 :: u49 :: u50 :: u51 :: u52 :: []), []⟩) ?hAx ?assign ?body ?done ?stop
  case hAx =>
    rintro x a' _ W W' row ⟨Bv, h2, h4⟩ hg hr
    exact ⟨Bv, cell_kept h2 hg (fun r e => (hr r e).2), h4⟩
  case stop =>
    rintro D c pre W _ _ h _
    exact h.elim
  case done =>
    rintro E ys W hE hys ⟨N, h1, h2, h3, h4⟩ hK
    have hl : ys.length = S.length := by
      have := congrArg List.length hys
      rw [bk_len, List.length_map] at this
      exact this
    have h5 := h2 (by rw [hl]; exact hys)
    have e : (ys.map (·.1.2)).reverse = S := by
      have : ys.map (·.1.2) = (bk S S.length).map (·.2) := by rw [← hys, List.map_map]; rfl
      rw [this]
      exact bk_all S
    rw [e] at h5
    exact HDONE.out E N W hE h1 h5 h3 h4 hK
  case assign =>
    intro l pre x W K' hI hK
    have HI2 : Hid (CI2 w2 n g t K b G S pre (W.alloc (.cells #[.int .i64 (x.1.2 : Int)] 2))) := (CI2.own hgl).alloc _ hI
    clear hI
    unfold encB
    gi_wp2
    exact hK _ _ ((KeepsOthers.alloc _ _).from _) (fun h => h.kept (fun b o u hc => cellq (box1 _ _) hc)) HI2.out ⟨W.heap.size, (Blk.new W #[.int .i64 (x.1.2 : Int)] 2 _ rfl).cell (i := 0) rfl, rfl⟩
  case body =>
    rintro l pre x a' W hl ⟨rec, hrec⟩ ⟨N, hNl, hNX, hgW, hOn⟩ ⟨Bv, hbv, rfl⟩ hlen
    obtain ⟨c, hc, hxe⟩ := x.2
    have hvS : x.1.2 ∈ S := by rw [hxe]; exact lat_mem (by omega)
    have hvn := HSn.out _ hvS
    obtain ⟨⟨n1, n2, n3, n4, n5⟩, n6⟩ := HSEP.out
    have x1 := hOn.cell (by simpa using n1) HB.out.1
    have HX2 : Hid (W.cell? ⟨bN, 0, none⟩ = some (.slice (some ⟨g, 0, none⟩) n n)) := hOn.cell (by simpa using n2) HB.out.2
    have HSW : Hid (SB W p [.slice a0 m0 c0, .slice a1 m1 c1, .slice a2 m2 c2, .slice a3 m3 c3, .slice a4 m4 c4, .slice a5 m5 c5, .slice a6 m6 c6] t rb n q sv b) := HS.out.kept (hOn.block p HS.out.lt (by simpa using n3))
    have HKW : Hid (RKM W rb n K) := HK.out.kept (hOn.block rb HK.out.lt (by simpa using n4))
    have HCW : Hid (Nx wC W) := Below.trans HNX.out.1 (hOn.below HNX.out.1.size (by simpa using HNX.out.2))
    have HNXX : Hid (pre.map (·.1) = bk S pre.length → NX (eoG G) (arcsG G) t K b ((pre.map (·.1.2)).reverse) (nfR N)) := hNX
    have HGW : Hid (N.length = n ∧ W.heap[g]? = some (.cells (icells N).toArray 2 (0, 0))) := ⟨hNl, hgW⟩
    have HON : Hid (OnS [g] w2 W) := hOn
    have HREC : Hid (W.heap[l]? = some (.loop rec)) := hrec
    have HBV : Hid (W.cell? ⟨Bv, 0, none⟩ = some (.int .i64 (x.1.2 : Int))) := hbv
    have HVS : Hid (x.1.2 ∈ S) := hvS
    have HLEN : Hid (pre.length < S.length) := hlen
    clear hNX hgW hOn hrec hxe hc hvS hlen hNl n1 n2 n3 n4 n5 n6
    refine wpIn_block ?_
    refine wpIn_seq ?_
    gi_wp2_with (refine ⟨trivial, ?_⟩; gi_at_call 54; refine (CallsIn.inRound l (callsIn_wide.2 (onward_any p rb n q _ _ _ _ _ _ _ t sv b x.1.2 _ HSW.out (by intro x hx; simp at hx; rcases hx with rfl | rfl | rfl | rfl | rfl | rfl | rfl <;> exact ⟨_, _, _, rfl⟩)))).mono ?_; rintro e W4 ⟨bg, bv, bs, rfl, hOW, hls, hx4⟩)
    have H4 : Hid (Nx W W4) := hx4
    have hvG : x.1.2 < G.eo.length := by omega
    obtain ⟨e2, b2, o2, ha2, hc2⟩ := HH.out.h2.row (by have := HVG.out.lf; omega)
    have e3 := HH.out.h3.len
    have e4 := HH.out.h4.len
    subst ha2
    have hfl := fst_le HVG.out hvG
    have hft := (fst_eq HVG.out (show x.1.2 + 1 ≤ G.eo.length by omega)).2
    have HC4 : Hid (Nx wC W4) := HCW.out.trans H4.out
    have HITC : Hid (ITC W4 bg bv bs p rb n x.1.2 b2 o2 m2 c2 a3 m3 c3 a4 m4 c4 G (K x.1.2)) := by
      have hs4 := HSW.out.kept (H4.out.block p HSW.out.lt)
      have hk4 := HKW.out.next H4.out
      refine ⟨hOW.g.cell (i := 2) rfl, hOW.g.cell (i := 3) rfl, hOW.g.cell (i := 4) rfl, hOW.v.cell (i := 0) rfl, hOW.s.cell (i := 0) rfl, hs4.cell.2.1, hk4.c1 hvn, hk4.c2 hvn, ?_, ?_, fun k h1 h2 => ?_, fun k h1 h2 => ?_⟩
      · rw [← (fst_eq HVG.out (show x.1.2 ≤ G.eo.length by omega)).1]
        exact cellq HC4.out (hc2 _ (by have := HVG.out.lf; omega))
      · rw [← (fst_eq HVG.out (show x.1.2 + 1 ≤ G.eo.length by omega)).1]
        exact cellq HC4.out (hc2 _ (by have := HVG.out.lf; omega))
      · obtain ⟨_, b, o, ha, hc⟩ := HH.out.h3.row (by omega)
        exact ⟨b, o, ha, cellq HC4.out (hc k (by omega))⟩
      · have := HVG.out.lc
        obtain ⟨_, b, o, ha, hc⟩ := HH.out.h4.row (by omega)
        exact ⟨b, o, ha, cellq HC4.out (hc k (by omega))⟩
    have HN4 : Hid (N.length = n ∧ W4.heap[g]? = some (.cells (icells N).toArray 2 (0, 0))) := ⟨HGW.out.1, (H4.out.block g (Array.getElem?_eq_some_iff.1 HGW.out.2).1).trans HGW.out.2⟩
    have hl4 : W4.heap[l]? = some (.loop rec) := (H4.out.block l (Array.getElem?_eq_some_iff.1 HREC.out).1).trans HREC.out
    have hgl4 : g < W4.heap.size := (Array.getElem?_eq_some_iff.1 HN4.out.2).1
    refine choose_inner l rec W4 p q rb n a0 m0 c0 _ _ _ _ _ _ t sv b K G B x.1.2 bS bN Bv g bg bv bs N b2 o2 m2 c2 a3 m3 c3 a4 m4 c4 hl4 HVG e2 e3 e4 hnG hn hvn (HRB.out _ HVS.out).1 (HRB.out _ HVS.out).2 (HSW.out.kept (H4.out.block p HSW.out.lt)) (HKW.out.next H4.out) (HH.out.h0.next HC4.out) ⟨cellq H4.out x1, cellq H4.out HX2.out, cellq H4.out HBV.out⟩ HN4 HITC _ _ _ _ _ _ _ _ _ _ _ _ _ _ _ _ _ _ _ _ _ _ _ _ _ _ _ _ _ _ _ _ _ _ _ _ _ _ _ _ _ _ _ _ _ _ _ _ _ _ _ ?_ ?_
    · intro W5 h5 hno
      have h45 := H4.out.trans h5
      refine ⟨KeepsFrom.on (OnS.nx (S := []) h45) (by simp), fun h => h.kept (fun b o u hc => cellq h45 hc), ?_⟩
      exact CI2.step HVG.out HND.out HASC.out HLEN.out HGW.out.1 HNXX.out ((h45.block g (Array.getElem?_eq_some_iff.1 HGW.out.2).1).trans HGW.out.2) (HON.out.tr (OnS.nx h45)) (fun _ _ => rfl) (Or.inr ⟨rfl, hno⟩)
    · intro W5 y h5 hg5 hy
      have h45 := (OnS.nx (S := [g]) H4.out).tr h5
      obtain ⟨⟨n1, n2, n3, n4, n5⟩, n6⟩ := HSEP.out
      refine ⟨KeepsFrom.on h45 (fun z hz => by have := List.mem_singleton.1 hz; subst this; exact ⟨_, _, _, HGW.out.2⟩), fun h => h.on h45 (by simpa using n5) (fun gs o e => by simpa using n6 gs o e), ?_⟩
      obtain ⟨pr, k, post, q1, q2, q3⟩ := hy
      exact CI2.step HVG.out HND.out HASC.out HLEN.out (by rw [List.length_set]; exact HGW.out.1) HNXX.out hg5 (HON.out.tr h45) (fun z hz => nfR_set' N hz _) (Or.inl ⟨pr, y, k, post, q1, q2, q3, nfR_set N (by rw [HGW.out.1]; exact hvn) _⟩)
end Go.Proofs.Yticooljejlkbfaa

namespace Go.Proofs.Yticooljejlkbfaa
open Go.RowKit Go.Sort Go.Maps Go.Shelf
set_option linter.unusedVariables false
set_option maxRecDepth 1000000

/-- the settled vertices: below n, and of ranks within bounds -/
theorem DJ.bounds {G : Gr} (hG : VG G) {s0 : Nat} {w0 t : Int} {K : Nat → Rk} {S O : List Nat} (h : DJ (eoG G) (arcsG G) s0 w0 t (arcsG G) K S O) (hs0 : s0 < G.eo.length) (hw0 : 0 ≤ w0 ∧ w0 ≤ 1048576) : (∀ v ∈ S, v < G.eo.length) ∧ S.length ≤ G.eo.length ∧ ∀ v ∈ S, (0 ≤ (K v).1 ∧ (K v).1 ≤ 100000000000) ∧ (0 ≤ (K v).2 ∧ (K v).2 ≤ 100000) := by
  have h1 : ∀ v ∈ S, v < G.eo.length := fun v hv => by
    obtain ⟨E, c, hW, _⟩ := h.real v ((h.dom v).2 (Or.inl hv))
    exact hW.bd hs0 (arcs_lt hG)
  have h2 := nodup_len G.eo.length S h.nds h1
  refine ⟨h1, h2, fun v hv => ?_⟩
  obtain ⟨E, c, hW, e⟩ := h.real v ((h.dom v).2 (Or.inl hv))
  have h3 := wk_cost hG hw0 hW
  have h4 := h.cn.1 v hv
  have h5 := hG.v
  rw [e] at h4 ⊢
  simp only at h4 ⊢
  omega

set_option maxHeartbeats 16000000 in
/-- **choose** -/
theorem choose_any (wC w : World) (sb p q mb rb n : Nat) (a0 : Option Addr) (m0 c0 : Nat) (a1 : Option Addr) (m1 c1 : Nat) (a2 : Option Addr) (m2 c2 : Nat) (a3 : Option Addr) (m3 c3 : Nat) (a4 : Option Addr) (m4 c4 : Nat) (a5 : Option Addr) (m5 c5 : Nat) (a6 : Option Addr) (m6 c6 : Nat) (t : Int) (G : Gr) (B : Nat) (s0 : Nat) (w0 : Int) (b : Rk) (iv sv : Value) (K : Nat → Rk) (L : List Nat) (D : DM) (S O : List Nat) (HVG : Hid (VG G)) (HH : Hid (HG B wC (.slice a0 m0 c0) (.slice a1 m1 c1) (.slice a2 m2 c2) (.slice a3 m3 c3) (.slice a4 m4 c4) (.slice a5 m5 c5) (.slice a6 m6 c6) G)) (hnG : G.eo.length = n) (hn1 : 1 ≤ n) (hs0 : s0 < n) (hw0 : 0 ≤ w0 ∧ w0 ≤ 1048576) (hnx : Nx wC w) (h : SR wC.heap.size w sb p q mb rb n [.slice a0 m0 c0, .slice a1 m1 c1, .slice a2 m2 c2, .slice a3 m3 c3, .slice a4 m4 c4, .slice a5 m5 c5, .slice a6 m6 c6] t b iv sv K L D S) (hDJ : DJ (eoG G) (arcsG G) s0 w0 t (arcsG G) K S O) :
    Calls Try.prog 55 #[.pointer (some ⟨p, 0, none⟩)] w fun e w' => ∃ g N, e = .returned (.slice (some ⟨g, 0, none⟩) n n) ∧ w'.heap[g]? = some (.cells (icells N).toArray 2 (0, 0)) ∧ N.length = n ∧ NX (eoG G) (arcsG G) t K b S (nfR N) ∧ Nx w w' := by
  have hn6 : n ≤ 6000 := by have := HVG.out.v; omega
  have HD : Hid (DJ (eoG G) (arcsG G) s0 w0 t (arcsG G) K S O) := hDJ
  obtain ⟨hb1, hb2, hb3⟩ := hDJ.bounds HVG.out (by omega) hw0
  have HSn : Hid (∀ v ∈ S, v < n) := by rw [← hnG]; exact hb1
  have HRB : Hid (∀ v ∈ S, (0 ≤ (K v).1 ∧ (K v).1 ≤ 100000000000) ∧ (0 ≤ (K v).2 ∧ (K v).2 ≤ 100000)) := hb3
  have hSl : S.length ≤ 6000 := by omega
  clear hb1 hb2 hb3 hDJ
  obtain ⟨sa, sc, hsv⟩ := h.d.slice
  rw [ints_len] at hsv
  subst hsv
  have H : Hid (SR wC.heap.size w sb p q mb rb n [.slice a0 m0 c0, .slice a1 m1 c1, .slice a2 m2 c2, .slice a3 m3 c3, .slice a4 m4 c4, .slice a5 m5 c5, .slice a6 m6 c6] t b iv (.slice sa S.length sc) K L D S) := h
  clear h
  refine (callsIn_wide (n := 9)).1 (callsIn_of_wp_marks Try.func55 rfl trivial ?_ rfl)
  simp only [Try.ntmps55, List.size_toArray, List.length_cons, List.length_nil, Nat.reduceAdd, Nat.reduceSub, Array.replicate_succ, Array.replicate_zero, List.push_toArray, List.append_toArray, List.nil_append, List.cons_append]
  refine wpIn_wide.2 ?_
  have HX1 : Hid (Nx w (w.alloc (.cells #[.pointer (some ⟨p, 0, none⟩)] 51))) := box1 _ _
  have HB1 : Hid (Blk (w.alloc (.cells #[.pointer (some ⟨p, 0, none⟩)] 51)) w.heap.size #[.pointer (some ⟨p, 0, none⟩)]) := Blk.new w _ _ _ rfl
  have HZ1 : Hid ((w.alloc (.cells #[.pointer (some ⟨p, 0, none⟩)] 51)).heap.size = w.heap.size + 1) := size_alloc' _ _
  go_upto_region 1 with fail
  generalize w.alloc (.cells #[.pointer (some ⟨p, 0, none⟩)] 51) = w1 at *
  have HX2 : Hid (Nx w1 (w1.alloc (.cells #[.int .i64 (-1)] 2))) := box1 _ _
  have hS1 := H.out.next (HX1.out.trans HX2.out)
  have x1 := cellq HX2.out (HB1.out.cell (i := 0) rfl)
  have k8 := hS1.s.cell.2.1
  have HM1 : Hid ((w1.alloc (.cells #[.int .i64 (-1)] 2)).cell? ⟨w1.heap.size, 0, none⟩ = some (.int .i64 (-1))) := (Blk.new w1 #[.int .i64 (-1)] 2 _ rfl).cell (i := 0) rfl
  have HZ2 : Hid ((w1.alloc (.cells #[.int .i64 (-1)] 2)).heap.size = w1.heap.size + 1) := size_alloc' _ _
  clear hS1
  go_wp2_with fail
  refine (repeat_any _ w1.heap.size n (-1) HM1.out hn1 hn6).mono ?_
  rintro e w3 ⟨rfl, hrow, hx3⟩
  have HX3 : Hid (Nx w w3) := (HX1.out.trans HX2.out).trans hx3
  generalize hgg : (w1.alloc (.cells #[.int .i64 (-1)] 2)).heap.size = g at *
  have HG3 : Hid (w3.heap[g]? = some (.cells (icells (List.replicate n (-1))).toArray 2 (0, 0))) := hrow
  have HGZ : Hid (w.heap.size + 1 < g) := by have := HZ1.out; have := HZ2.out; unfold Hid; omega
  have HX13 : Hid (w3.cell? ⟨w.heap.size, 0, none⟩ = some (.pointer (some ⟨p, 0, none⟩))) := cellq hx3 x1
  have HS3 : Hid (SR wC.heap.size w3 sb p q mb rb n [.slice a0 m0 c0, .slice a1 m1 c1, .slice a2 m2 c2, .slice a3 m3 c3, .slice a4 m4 c4, .slice a5 m5 c5, .slice a6 m6 c6] t b iv (.slice sa S.length sc) K L D S) := H.out.next HX3.out
  have HX4 : Hid (Nx w3 (w3.alloc (.cells #[.slice (some ⟨g, 0, none⟩) n n] 22))) := box1 _ _
  have HB4 : Hid (Blk (w3.alloc (.cells #[.slice (some ⟨g, 0, none⟩) n n] 22)) w3.heap.size #[.slice (some ⟨g, 0, none⟩) n n]) := Blk.new w3 _ _ _ rfl
  have HGL : Hid (g < w3.heap.size) := (Array.getElem?_eq_some_iff.1 hrow).1
  clear hrow hx3 x1 k8 HX2 HM1 hgg HZ1 HZ2 HX1 HB1
  go_upto_region 2 with fail
  generalize w3.alloc (.cells #[.slice (some ⟨g, 0, none⟩) n n] 22) = w4 at *
  have HS4 : Hid (SR wC.heap.size w4 sb p q mb rb n [.slice a0 m0 c0, .slice a1 m1 c1, .slice a2 m2 c2, .slice a3 m3 c3, .slice a4 m4 c4, .slice a5 m5 c5, .slice a6 m6 c6] t b iv (.slice sa S.length sc) K L D S) := HS3.out.next HX4.out
  have x1 := cellq HX4.out HX13.out
  have k10 := HS4.out.s.cell.2.2.2.1
  go_wp2_with fail
  refine (back_any _ _ _ _).mono ?_
  rintro e w5 ⟨rfl, hw5⟩
  have HX5 : Hid (Nx w4 w5) := by unfold Hid; rw [hw5]; exact box1 _ _
  have HB5 : Hid (w5.cell? ⟨w4.heap.size, 0, none⟩ = some (.slice sa S.length sc)) := by unfold Hid; rw [hw5]; exact (Blk.new w4 _ _ _ rfl).cell (i := 0) rfl
  clear hw5 k10
  have HS5 : Hid (SR wC.heap.size w5 sb p q mb rb n [.slice a0 m0 c0, .slice a1 m1 c1, .slice a2 m2 c2, .slice a3 m3 c3, .slice a4 m4 c4, .slice a5 m5 c5, .slice a6 m6 c6] t b iv (.slice sa S.length sc) K L D S) := HS4.out.next HX5.out
  have HG5 : Hid (w5.heap[g]? = some (.cells (icells (List.replicate n (-1))).toArray 2 (0, 0))) := (HX5.out.block g (Nat.lt_of_lt_of_le HGL.out HX4.out.size)).trans ((HX4.out.block g HGL.out).trans HG3.out)
  have HC5 : Hid (Nx wC w5 ∧ wC.heap.size ≤ g) := ⟨((hnx.trans HX3.out).trans HX4.out).trans HX5.out, by have := hnx.size; have := HGZ.out; omega⟩
  have HIT : Hid (ITB w5 w4.heap.size sa sc S) := by
    refine ⟨HB5.out, fun i hi => ?_⟩
    have hd := HS5.out.d
    obtain ⟨gs, e, hc⟩ := hd.cell (i := i) (by rw [ints_len]; exact hi)
    exact ⟨gs, e, by rw [ints_at hi] at hc; exact hc⟩
  have HSEP : Hid ((w.heap.size ≠ g ∧ w3.heap.size ≠ g ∧ p ≠ g ∧ rb ≠ g ∧ w4.heap.size ≠ g) ∧ ∀ gs o, sa = some ⟨gs, o, none⟩ → gs ≠ g) := by
    have h1 := HGZ.out
    have h2 := HGL.out
    have h3 := HX4.out.size
    have h4 := H.out.s.lt
    have h5 := H.out.k.lt
    refine ⟨⟨by omega, by omega, by omega, by omega, by omega⟩, fun gs o e => ?_⟩
    subst e
    rcases H.out.d.2 with ⟨e2, _⟩ | ⟨g2, cap, cur, e2, _, hh, _⟩
    · cases e2
    · simp only [Value.slice.injEq, Option.some.injEq, Addr.mk.injEq] at e2
      have := (Array.getElem?_eq_some_iff.1 hh).1
      omega
  have HCB : Hid (w5.cell? ⟨w.heap.size, 0, none⟩ = some (.pointer (some ⟨p, 0, none⟩)) ∧ w5.cell? ⟨w3.heap.size, 0, none⟩ = some (.slice (some ⟨g, 0, none⟩) n n)) := ⟨cellq HX5.out x1, cellq HX5.out (HB4.out.cell (i := 0) rfl)⟩
  clear x1
  go_wp2
  refine choose_outer wC w5 p q rb n a0 m0 c0 a1 m1 c1 a2 m2 c2 a3 m3 c3 a4 m4 c4 a5 m5 c5 a6 m6 c6 t (.slice sa S.length sc) b K G B S w.heap.size w3.heap.size g w4.heap.size sa sc HVG HH hnG hn6 HC5 HS5.out.s HS5.out.k HCB HG5 HIT HSEP hSl HSn HRB HD.out.nds HD.out.asc _ _ _ _ _ _ _ _ _ _ _ _ _ _ _ _ _ _ _ _ _ _ _ _ _ _ _ _ _ _ _ _ _ _ _ _ _ _ _ _ _ _ _ _ _ _ _ _ _ _ _ _ ?_
  intro E N W hE hNl hNX hgW hOn hK
  have z1 := hOn.cell (by simpa using HSEP.out.1.2.1) HCB.out.2
  have HNl : Hid (N.length = n) := hNl
  have HGW : Hid (W.heap[g]? = some (.cells (icells N).toArray 2 (0, 0))) := hgW
  have HON : Hid (OnS [g] w5 W) := hOn
  have HEK : Hid (W.heap[E]? = some (.deferred (some []))) := hK
  clear hNl hgW hOn hK
  go_wp2
  refine leaves_marks [E] W (by simp) (by simpa using HEK.out) (fun W' ho => ?_)
  have hEg : g ≠ E := fun e => by
    have h1 := HGW.out
    rw [e, HEK.out] at h1
    cases h1
  refine ⟨_, results_tmp rfl _ _ _, g, N, rfl, (ho.block g (Array.getElem?_eq_some_iff.1 HGW.out).1 (by simpa using hEg)).trans HGW.out, HNl.out, hNX, ?_⟩
  have h1 : Nx w w5 := (HX3.out.trans HX4.out).trans HX5.out
  have h2 : Below w.heap.size w5 W := HON.out.below h1.size (by simp; have := HGZ.out; omega)
  refine Below.trans (Below.trans h1 h2) (ho.below (by have := HON.out.size; have := h1.size; omega) (by simp; have := h1.size; omega))
end Go.Proofs.Yticooljejlkbfaa

namespace Go.Proofs.Yticooljejlkbfaa
open Go.RowKit Go.Sort Go.Maps Go.Shelf
set_option linter.unusedVariables false
set_option maxRecDepth 100000

theorem goal_mono {G : Gr} (h : VG G) {v : Nat} (hv : v < G.eo.length) : ∀ d k, fst G v ≤ k → k + d + 1 < fst G (v + 1) → goal G k < goal G (k + d + 1)
  | 0, k, h1, h2 => by
    have e1 := (fst_eq h (show v ≤ G.eo.length by omega)).1
    have e2 := (fst_eq h (show v + 1 ≤ G.eo.length by omega)).1
    have := h.asc v hv (k + 1) (by rw [e1]; omega) (by rw [e2]; omega)
    simpa using this
  | d + 1, k, h1, h2 => by
    have e1 := (fst_eq h (show v ≤ G.eo.length by omega)).1
    have e2 := (fst_eq h (show v + 1 ≤ G.eo.length by omega)).1
    have h3 := goal_mono h hv d k h1 (by omega)
    have := h.asc v hv (k + d + 1 + 1) (by rw [e1]; omega) (by rw [e2]; omega)
    have e3 : k + d + 1 + 1 - 1 = k + d + 1 := by omega
    rw [e3] at this
    have e4 : k + (d + 1) + 1 = k + d + 1 + 1 := by omega
    rw [e4]
    omega
theorem arcs_asc {G : Gr} (h : VG G) (v : Nat) : (arcsG G v).Pairwise (fun p q => eoG G p.1 < eoG G q.1) := by
  unfold arcsG
  split
  · rename_i hv
    rw [List.pairwise_map]
    refine List.Pairwise.imp_of_mem (fun {a b} ha hb hab => ?_) (List.pairwise_lt_range' (s := fst G v) (n := fst G (v + 1) - fst G v) (step := 1) (by decide))
    have ha' := List.mem_range'_1.1 ha
    have hb' := List.mem_range'_1.1 hb
    have := goal_mono h hv (b - a - 1) a ha'.1 (by omega)
    rw [show a + (b - a - 1) + 1 = b by omega] at this
    exact this
  · exact List.Pairwise.nil
theorem TR.casesF {eo : Nat → Int} {t : Int} {K : Nat → Rk} {b : Rk} {N : Nat → Int} {x : Nat} {F : List Int} (h : TR eo t K b N x F) : (EndP eo t K b x ∧ F = []) ∨ (¬ EndP eo t K b x ∧ ∃ y F2, N x = (y : Nat) ∧ F = eo y :: F2 ∧ TR eo t K b N y F2) := by
  induction h using TR.ind with
  | nil h => exact Or.inl ⟨h, rfl⟩
  | cons h1 h2 h3 hzz => exact Or.inr ⟨h1, _, _, h2, rfl, h3⟩
theorem TR.len {eo : Nat → Int} {arcs : Nat → List (Nat × Int)} {t : Int} {K : Nat → Rk} {b : Rk} {S : List Nat} {N : Nat → Int} (hX : NX eo arcs t K b S N) {x : Nat} {F : List Int} (h : TR eo t K b N x F) : b.2 = (K x).2 + F.length := by
  induction h using TR.ind with
  | nil h => rw [h.2]; simp
  | cons h1 h2 h3 ih =>
    obtain ⟨_, k, _, g2, _⟩ := hX.go h2
    rw [ih, g2, List.length_cons]
    simp only [aft]
    omega
def sliceLen : Value → Nat
  | .slice _ n _ => n
  | _ => 0

set_option maxHeartbeats 16000000 in
/-- **trace** -/
theorem trace_any (wC w : World) (sb p q mb rb n : Nat) (a0 : Option Addr) (m0 c0 : Nat) (a1 : Option Addr) (m1 c1 : Nat) (a2 : Option Addr) (m2 c2 : Nat) (a3 : Option Addr) (m3 c3 : Nat) (a4 : Option Addr) (m4 c4 : Nat) (a5 : Option Addr) (m5 c5 : Nat) (a6 : Option Addr) (m6 c6 : Nat) (t : Int) (G : Gr) (B : Nat) (s0 : Nat) (w0 : Int) (v0 : Nat) (iv sv : Value) (K : Nat → Rk) (L : List Nat) (D : DM) (S O : List Nat) (HVG : Hid (VG G)) (HH : Hid (HG B wC (.slice a0 m0 c0) (.slice a1 m1 c1) (.slice a2 m2 c2) (.slice a3 m3 c3) (.slice a4 m4 c4) (.slice a5 m5 c5) (.slice a6 m6 c6) G)) (hnG : G.eo.length = n) (hs0 : s0 < n) (hw0 : 0 ≤ w0 ∧ w0 ≤ 1048576) (hnx : Nx wC w) (h : SR wC.heap.size w sb p q mb rb n [.slice a0 m0 c0, .slice a1 m1 c1, .slice a2 m2 c2, .slice a3 m3 c3, .slice a4 m4 c4, .slice a5 m5 c5, .slice a6 m6 c6] t (K v0) iv sv K L D S) (hDJ : DJ (eoG G) (arcsG G) s0 w0 t (arcsG G) K S O) (hv0 : v0 ∈ O) (hle : ∀ y ∈ O, ¬ rlt (K y) (K v0)) (ht : eoG G v0 = t) :
    Calls Try.prog 39 #[.pointer (some ⟨p, 0, none⟩), .int .i64 (s0 : Int)] w fun e w' => ∃ v' E, e = .returned v' ∧ OwnI w.heap.size w' v' E ∧ BestR t (fun c E => ∃ v, WK (eoG G) (arcsG G) s0 w0 E c v ∧ eoG G v = t) ⟨0, (K v0).1, E⟩ ∧ E.length ≤ 7001 ∧ Nx w w' := by
  have hn6 : n ≤ 6000 := by have := HVG.out.v; omega
  obtain ⟨ii, hi, hz0, hz1, hz2⟩ := info_parts infoInt
  have H : Hid (SR wC.heap.size w sb p q mb rb n [.slice a0 m0 c0, .slice a1 m1 c1, .slice a2 m2 c2, .slice a3 m3 c3, .slice a4 m4 c4, .slice a5 m5 c5, .slice a6 m6 c6] t (K v0) iv sv K L D S) := h
  have HD : Hid (DJ (eoG G) (arcsG G) s0 w0 t (arcsG G) K S O) := hDJ
  have HV0 : Hid (v0 ∈ O) := hv0
  have HLE : Hid (∀ y ∈ O, ¬ rlt (K y) (K v0)) := hle
  have HT : Hid (eoG G v0 = t) := ht
  clear h hDJ hv0 hle ht
  go_enter Try.func39, Try.ntmps39
  go_wp2_with fail
  refine (choose_any wC w sb p q mb rb n a0 m0 c0 a1 m1 c1 a2 m2 c2 a3 m3 c3 a4 m4 c4 a5 m5 c5 a6 m6 c6 t G B s0 w0 (K v0) iv sv K L D S O HVG HH hnG (by omega) hs0 hw0 hnx H.out HD.out).mono ?_
  rintro e w1 ⟨g, N, rfl, hg, hNl, hNX, hx1⟩
  obtain ⟨F, hF, hBest⟩ := HD.out.found (fun v u k h => (arcs_co HVG.out v u k h).1) (arcs_asc HVG.out) HV0.out HLE.out HT.out hNX
  have HBEST : Hid (BestR t (fun c E => ∃ v, WK (eoG G) (arcsG G) s0 w0 E c v ∧ eoG G v = t) ⟨0, (K v0).1, eoG G s0 :: F⟩) := hBest
  have HTR0 : Hid (TR (eoG G) t K (K v0) (nfR N) s0 F) := hF
  have hFl : F.length ≤ 7000 := by
    have h1 := hF.len hNX
    have h2 := HD.out.cn.2 v0 HV0.out
    have h3 := (HD.out.bounds HVG.out (by omega) hw0).2.1
    obtain ⟨E, c, hW, e⟩ := HD.out.real s0 HD.out.st.1
    have h4 : 0 ≤ (K s0).2 := by rw [e]; simp
    omega
  have HNX : Hid (NX (eoG G) (arcsG G) t K (K v0) S (nfR N)) := hNX
  have HX1 : Hid (Nx w w1) := hx1
  have HS1 : Hid (SR wC.heap.size w1 sb p q mb rb n [.slice a0 m0 c0, .slice a1 m1 c1, .slice a2 m2 c2, .slice a3 m3 c3, .slice a4 m4 c4, .slice a5 m5 c5, .slice a6 m6 c6] t (K v0) iv sv K L D S) := H.out.next hx1
  have HC1 : Hid (Nx wC w1) := hnx.trans hx1
  have HG1 : Hid (w1.heap[g]? = some (.cells (icells N).toArray 2 (0, 0))) := hg
  have HNL : Hid (N.length = n) := hNl
  obtain ⟨e0, b0, o0, ha0, hc0⟩ := (HH.out.next HC1.out).h0.row (by omega)
  subst ha0
  have HE0 : Hid (m0 = G.eo.length) := e0
  have HC0 : Hid (∀ i, i < G.eo.length → w1.cell? ⟨b0, o0 + i, none⟩ = some (.int .i64 (iat G.eo i))) := hc0
  have x0 : w1.cell? ⟨b0, o0 + s0, none⟩ = some (.int .i64 (eoG G s0)) := hc0 s0 (by omega)
  have k0 := HS1.out.s.gcell.1
  have hsm : (s0 : Int) < m0 := by omega
  clear hg hNl hNX hx1 hF hBest e0 hc0
  go_upto_region 3 with fail
  have HO0 : Hid (OwnI w1.heap.size (w1.alloc (.cells #[.int .i64 (eoG G s0)] 2)) (.slice (some ⟨w1.heap.size, 0, none⟩) 1 1) [eoG G s0]) := ownI_one _ _ _ (Nat.le_refl _)
  have HX2 : Hid (Nx w1 (w1.alloc (.cells #[.int .i64 (eoG G s0)] 2))) := box1 _ _
  clear x0 k0 hsm
  generalize w1.alloc (.cells #[.int .i64 (eoG G s0)] 2) = w2 at *
  go_wp2
  go_loopw [6, 7] (fun ev vv wr => ∃ (v : Nat) (E F' : List Int), v < n ∧ vv = .int .i64 v ∧ Hid (TR (eoG G) t K (K v0) (nfR N) v F') ∧ Hid (E ++ F' = eoG G s0 :: F) ∧ Hid (OwnI w1.heap.size wr ev E) ∧ Hid (Nx w1 wr)) (fun ev _ _ => F.length + 1 - sliceLen ev)
  case atStart => exact ⟨s0, [eoG G s0], F, hs0, rfl, HTR0, rfl, HO0, HX2⟩
  case round =>
    clear HO0 HX2 HTR0
    obtain ⟨v, E, F', hv, rfl, HTR, HEF, HO, HN⟩ := hrel
    have HSr : Hid (SR wC.heap.size wr sb p q mb rb n [.slice (some ⟨b0, o0, none⟩) m0 c0, .slice a1 m1 c1, .slice a2 m2 c2, .slice a3 m3 c3, .slice a4 m4 c4, .slice a5 m5 c5, .slice a6 m6 c6] t (K v0) iv sv K L D S) := HS1.out.next HN.out
    rcases HTR.out.casesF with ⟨he, hF⟩ | ⟨he, y, F2, hy, hF, hT2⟩
    · have HE : Hid (E = eoG G s0 :: F) := by have := HEF.out; rw [hF, List.append_nil] at this; exact this
      have de : endB (eoG G) t K (K v0) v = true := (endB_iff _ _ _ _ _).2 he
      clear he hF
      go_wp2_with fail
      refine (ends_any B p rb n q (some ⟨b0, o0, none⟩) m0 c0 _ _ _ _ _ _ G t sv (K v0) K v _ HSr.out.s HSr.out.k (HH.out.next (HC1.out.trans HN.out)).h0 hnG hv).mono ?_
      rintro e w4 ⟨rfl, hx4⟩
      rw [de]
      have HX4 : Hid (Nx wr w4) := hx4
      clear hx4 de
      go_wp2
      go_ret
      refine ⟨_, eoG G s0 :: F, rfl, ?_, HBEST.out, by simp; omega, (HX1.out.trans HN.out).trans HX4.out⟩
      have := HO.out.next HX4.out
      rw [HE.out] at this
      exact this.base HX1.out.size
    · have de : endB (eoG G) t K (K v0) v = false := Bool.eq_false_iff.2 (fun h => he ((endB_iff _ _ _ _ _).1 h))
      obtain ⟨hvS, kk, hkk, _, _⟩ := HNX.out.go hy
      have hyn : y < n := by have := arcs_lt HVG.out _ _ _ hkk; omega
      have HEF2 : Hid ((E ++ [eoG G y]) ++ F2 = eoG G s0 :: F) := by have := HEF.out; rw [hF] at this; unfold Hid; rw [List.append_assoc]; exact this
      have HT2 : Hid (TR (eoG G) t K (K v0) (nfR N) y F2) := hT2
      have hEl : E.length + F2.length = F.length := by have := congrArg List.length HEF2.out; simp at this; omega
      have HEL : Hid (E.length + F2.length = F.length) := hEl
      obtain ⟨ea, ec, hev⟩ := HO.out.slice
      have HCV : Hid (w1.cell? ⟨g, v, none⟩ = some (.int .i64 (y : Int))) := by
        unfold Hid
        rw [← hy, nfR_at (by rw [HNL.out]; exact hv)]
        simp only [World.cell?, HG1.out]
        have := icells_at (zs := N) (i := v) (by rw [HNL.out]; exact hv)
        simpa using this
      subst hev
      clear he hF hy hvS hkk hT2 hEl
      go_wp2_with fail
      refine (ends_any B p rb n q (some ⟨b0, o0, none⟩) m0 c0 _ _ _ _ _ _ G t sv (K v0) K v _ HSr.out.s HSr.out.k (HH.out.next (HC1.out.trans HN.out)).h0 hnG hv).mono ?_
      rintro e w4 ⟨rfl, hx4⟩
      rw [de]
      have HX4 : Hid (Nx wr w4) := hx4
      have HN4 : Hid (Nx w1 w4) := HN.out.trans hx4
      have HO4 : Hid (OwnI w1.heap.size w4 (.slice ea E.length ec) E) := HO.out.next hx4
      have HS4 : Hid (SR wC.heap.size w4 sb p q mb rb n [.slice (some ⟨b0, o0, none⟩) m0 c0, .slice a1 m1 c1, .slice a2 m2 c2, .slice a3 m3 c3, .slice a4 m4 c4, .slice a5 m5 c5, .slice a6 m6 c6] t (K v0) iv sv K L D S) := HSr.out.next hx4
      have c1 := cellq HN4.out HCV.out
      have c2 := cellq HN4.out (HC0.out y (by omega))
      rw [show iat G.eo y = eoG G y from rfl] at c2
      have c3 := HS4.out.s.gcell.1
      have hvn' : (v : Int) < n := by omega
      have hym : (y : Int) < m0 := by have := HE0.out; omega
      have hEb : E.length ≤ 7000 := by have := HEL.out; omega
      have HEB : Hid (E.length ≤ 7000) := hEb
      clear hx4 de
      generalize hev : eoG G y = ey at *
      generalize hel : E.length = el at *
      have HELN : Hid (E.length = el) := hel
      clear hel
      go_wp2_with (at_builtin; refine wpList_append_own_at _ rfl _ _ 22 rfl w1.heap.size 2 ii (.int .i64 0) 1 8 Try.underlying22 hi hz0 hz1 hz2 rfl (by decide) _ _ _ rfl (World.ownsRow.alloc HO4.out _) ⟨w4.heap.size, 0, none⟩ 1 1 [.int .i64 ey] rfl rfl (fun j u hj => new_cells w4 _ _ _ rfl j u hj) ?d2 ?d3 ?d4 ?d5 ?_)
      case d2 => intro u hu; simp at hu; subst hu; rfl
      case d3 => rw [HELN.out]; unfold maxLen; omega
      case d4 => rw [HELN.out]; omega
      case d5 => rw [size_alloc']; have := HN4.out.size; omega
      intro v7 w7 hown hgrow _ _
      have HO7 : Hid (OwnI w1.heap.size w7 v7 (E ++ [ey])) := OwnI.snoc hown
      have HN7 : Hid (Nx w1 w7) := Below.grown (HN4.out.alloc _) hgrow (by rw [size_alloc']; have := HN4.out.size; omega) (fun g hg => (own_lt HO4.out g hg).1)
      have HM : Hid (sliceLen v7 = el + 1) := by
        obtain ⟨a7, c7, e7⟩ := HO7.out.slice
        unfold Hid
        rw [e7]
        simp [sliceLen, HELN.out]
      clear hown hgrow c1 c2 c3
      go_wp2
      go_roundw
      case rel => exact ⟨y, E ++ [ey], F2, hyn, rfl, HT2, HEF2, HO7, HN7⟩
      case measure =>
        have h1 := HM.out
        have h2 := HEL.out
        have h3 := HELN.out
        show F.length + 1 - sliceLen v7 < F.length + 1 - E.length
        rw [h1]
        omega
end Go.Proofs.Yticooljejlkbfaa
