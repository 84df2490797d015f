import Derived.Test.YticooljejlkbfaaSS
namespace Go.Proofs.Yticooljejlkbfaa
open Go.RowKit Go.Sort
set_option linter.unusedVariables false
set_option maxRecDepth 1000000

theorem NW.full {G : Gr} (hG : VG G) {seen front R : List Wk} {i : Nat} (h : NW G seen front i 0 R) (hi : front.length ≤ i) (hf : ∀ x ∈ front, ∃ v : Nat, v < G.eo.length ∧ x.key = [(v : Int)]) : KP R ∧ ∃ C, Best R C ∧ Cands (eoG G) (arcsG G) seen front C := by
  obtain ⟨h1, C, h2, h3⟩ := h
  refine ⟨h1, C, h2, cand_all hG hf (fun z => ?_)⟩
  rw [h3]
  constructor
  · rintro ⟨a, v, k, g1, g2, g3, g4, g5, g6, g7⟩
    exact ⟨a, v, k, g1, g2, g3, g4, g5, Or.inl g1, g7⟩
  · rintro ⟨a, v, k, g1, g2, g3, g4, g5, g6, g7⟩
    exact ⟨a, v, k, g1, g2, g3, g4, g5, Or.inl (by omega), g7⟩
theorem RBox.set {w : World} {b : Nat} {rc rk : Int} {oa : Option Addr} {on oc : Nat} (h : RBox w b rc rk oa on oc) (rc' rk' : Int) (oa' : Option Addr) (on' oc' : Nat) : RBox (((w.setCell ⟨b, 0, none⟩ (.int .i64 rc')).setCell ⟨b, 1, none⟩ (.int .i64 rk')).setCell ⟨b, 2, none⟩ (.slice oa' on' oc')) b rc' rk' oa' on' oc' := by
  unfold RBox at *
  simp [World.setCell, Array.getElem?_modify, h]
theorem onl_box (w : World) (b : Nat) (x y z : Value) : Onl (some b) w (((w.setCell ⟨b, 0, none⟩ x).setCell ⟨b, 1, none⟩ y).setCell ⟨b, 2, none⟩ z) := (((Onl.refl (some b) w).set (Or.inl rfl) _ _).set (Or.inl rfl) _ _).set (Or.inl rfl) _ _
/-- the round's end -/
theorem ST.up {G : Gr} (hG : VG G) {s0 : Nat} (hs : s0 < G.eo.length) {w0 t : Int} {C b r : Nat} {wA wr wx w1 w2 w3 : World} {fv sv fv' sv' : Value} {seen front R : List Wk} {best : Rt} {rc rk : Int} {oa : Option Addr} {on oc : Nat} {rc' rk' : Int} {oa' : Option Addr} {on' oc' : Nat} {i : Nat}
    (h : ST G s0 w0 t C b r wA wr fv sv seen front best rc rk oa on oc) (hCA : C = wA.heap.size) (hbC : C ≤ b) (hN : NW G seen front i 0 R) (hi : front.length ≤ i) (hx : Nx wr wx)
    (hf : OwnK C w1 fv' (freshW R seen)) (hfb : ∀ g, fv'.ownBlock = some g → wx.heap.size ≤ g) (h1 : Nx wx w1)
    (hsv : OwnK C w2 sv' (seeW seen (freshW R seen))) (hsb : ∀ g, sv'.ownBlock = some g → sv.ownBlock = some g ∨ w1.heap.size ≤ g) (h2 : Onl sv.ownBlock w1 w2)
    (hr : HRt C w3 rc' rk' oa' on' oc' (bestW t best (freshW R seen))) (h3 : Nx w2 w3) :
    ST G s0 w0 t C b (r + 1) wA (((w3.setCell ⟨b, 0, none⟩ (.int .i64 rc')).setCell ⟨b, 1, none⟩ (.int .i64 rk')).setCell ⟨b, 2, none⟩ (.slice oa' on' oc')) fv' sv' (seeW seen (freshW R seen)) (freshW R seen) (bestW t best (freshW R seen)) rc' rk' oa' on' oc' := by
  have hSx := h.next (hx.trans h1)
  have hwr : WRow w1 sv.ownBlock := hSx.os.wrow
  have hbl : b < wr.heap.size := (Array.getElem?_eq_some_iff.1 h.bx).1
  have hlt := ownK_lt h.os
  have hz1 : wr.heap.size ≤ wx.heap.size := hx.size
  have hz2 : wx.heap.size ≤ w1.heap.size := h1.size
  have hz3 : w1.heap.size ≤ w2.heap.size := h2.size
  have hz4 : w2.heap.size ≤ w3.heap.size := h3.size
  have hf2 : OwnK C w2 fv' (freshW R seen) := hf.onl h2 hwr (fun g e e' => by have := hfb g e; have := (hlt g e').2; omega)
  have hb2 : RBox w2 b rc rk oa on oc := (h2.block b (by omega) (fun e => h.sb b e.symm rfl)).trans hSx.bx
  have hb3 : RBox w3 b rc rk oa on oc := (h3.block b (by omega)).trans hb2
  obtain ⟨hp, C', hB, hC'⟩ := hN.full hG hi (h.fkeys hG hs)
  have hO := onl_box w3 b (.int .i64 rc') (.int .i64 rk') (.slice oa' on' oc')
  refine ⟨(hf2.next h3).ont hO hb3.trow (by decide) (by decide), (hsv.next h3).ont hO hb3.trow (by decide) (by decide), seeW_kp h.kp, hp.filter _, h.lv.up hC' hB hp, fun g e e' => ?_, fun g e => ?_, hb3.set _ _ _ _ _, ⟨hr.1, hr.2.1, hr.2.2.ont hO hb3.trow (by decide)⟩, ?_⟩
  · have q1 := hfb g e'
    have q2 := (ownK_lt hf g e').2
    rcases hsb g e with q | q
    · have := (hlt g q).2; omega
    · omega
  · rcases hsb g e with q | q
    · exact h.sb g q
    · omega
  · have e1 : Below C w1 w2 := h2.below (by have := h.nx.size; rw [← hCA] at this; omega) (fun g e => (hlt g e).1)
    have e2 : Below C w3 _ := hO.below (C := C) (by have := h.nx.size; rw [← hCA] at this; omega) (fun g e => by cases e; exact hbC)
    have e0 : Nx wA w1 := h.nx.trans (hx.trans h1)
    unfold Nx at e0 ⊢
    rw [← hCA] at e0 ⊢
    exact Below.trans (Below.trans (Below.trans e0 e1) (Below.mono h3 (by have := h.nx.size; rw [← hCA] at this; omega))) e2

set_option maxHeartbeats 16000000 in
theorem short_l1 {G : Gr} {s0 : Nat} {w0 t : Int} {B C b gb n : Nat} {wA : World} {a0 a1 a2 a3 a4 a5 a6 : Option Addr} {m0 m1 m2 m3 m4 m5 m6 c0 c1 c2 c3 c4 c5 c6 : Nat} (HVG : Hid (VG G)) (HN : Hid (G.eo.length = n)) (HS0 : Hid (s0 < n)) (HW0 : Hid (0 ≤ w0 ∧ w0 ≤ 1048576)) (HCA : Hid (C = wA.heap.size)) (HBC : Hid (C ≤ b)) (HH : Hid (HG B wA (.slice a0 m0 c0) (.slice a1 m1 c1) (.slice a2 m2 c2) (.slice a3 m3 c3) (.slice a4 m4 c4) (.slice a5 m5 c5) (.slice a6 m6 c6) G)) (HB : Hid (Blk wA gb #[.slice a0 m0 c0, .slice a1 m1 c1, .slice a2 m2 c2, .slice a3 m3 c3, .slice a4 m4 c4, .slice a5 m5 c5, .slice a6 m6 c6])) (u0 u1 u4 u5 u6 u7 u12 u13 u14 u15 u16 u17 u18 u19 u20 u21 u22 u23 u24 u25 u26 u27 u28 u29 u30 u31 u32 u33 u34 u35 u36 u37 u38 u39 u40 u41 u42 u43 u44 u45 u46 u47 u48 u49 u50 u51 u52 u53 u54 u55 u56 u57 u58 u59 u60 u61 u62 u63 u64 u65 u66 u67 u68 u69 u70 u71 u72 u73 u74 u75 u76 u77 u78 u79 u80 u81 u82 u83 u84 u85 u86 u87 u88 u89 u90 u91 u92 u93 u94 u95 u96 u97 u98 u99 u100 u101 u102 u103 u104 u105 u106 u107 u108 u109 u110 u111 u112 u113 u114 u115 u116 u117 u118 u119 u120 u121 u122 u123 u124 u125 u126 u127 u128 u129 u130 u131 u132 u133 u134 u135 u136 u137 u138 u139 u140 u141 u142 u143 u144 u145 u146 u147 u148 u149 u150 u151 u152 u153 u154 u155 u156 u157 u158 u159 u160 u161 u162 u163 u164 u165 : Value) (Q : Exit → Act → World → Prop)
    (hexit : ∀ (fv sv : Value) (r : Nat) (seen front : List Wk) (best : Rt) (rc rk : Int) (oa : Option Addr) (on oc : Nat) (y12 y13 y14 y15 y16 y17 y18 y68 y69 y70 y71 y72 y73 y74 y75 y76 y77 y78 y79 y80 y81 y82 y83 y84 y85 y86 y87 y88 y89 y90 y91 y92 y93 y94 y95 y96 y97 y98 y99 y100 y101 y102 y103 y104 y105 y106 y107 y108 y109 y110 y111 y112 y113 y114 y115 y116 y117 y118 y119 y120 y121 y122 y123 y124 y125 y126 y127 y128 y129 y130 y131 y132 y133 y134 y135 y136 y137 y138 y139 y140 y141 y142 y143 y144 y145 y146 y147 y148 y149 y150 y151 y152 y153 y154 y155 y156 y157 y158 y159 y160 y161 y162 y163 y164 : Value) (wx : World), ST G s0 w0 t C b r wA wx fv sv seen front best rc rk oa on oc → front = [] → Q (.exit 0) ⟨List.toArray (u0 :: u1 :: .int .i64 t :: .pointer (some ⟨gb, 0, none⟩) :: u4 :: u5 :: u6 :: u7 :: fv :: sv :: .pointer (some ⟨b, 0, none⟩) :: .int .i64 ((n : Int) + 1 - (r : Int)) :: y12 :: y13 :: y14 :: y15 :: y16 :: y17 :: y18 :: u19 :: u20 :: u21 :: u22 :: u23 :: u24 :: u25 :: u26 :: u27 :: u28 :: u29 :: u30 :: u31 :: u32 :: u33 :: u34 :: u35 :: u36 :: u37 :: u38 :: u39 :: u40 :: u41 :: u42 :: u43 :: u44 :: u45 :: u46 :: u47 :: u48 :: u49 :: u50 :: u51 :: u52 :: u53 :: u54 :: u55 :: u56 :: u57 :: u58 :: u59 :: u60 :: u61 :: u62 :: u63 :: u64 :: u65 :: u66 :: u67 :: y68 :: y69 :: y70 :: y71 :: y72 :: y73 :: y74 :: y75 :: y76 :: y77 :: y78 :: y79 :: y80 :: y81 :: y82 :: y83 :: y84 :: y85 :: y86 :: y87 :: y88 :: y89 :: y90 :: y91 :: y92 :: y93 :: y94 :: y95 :: y96 :: y97 :: y98 :: y99 :: y100 :: y101 :: y102 :: y103 :: y104 :: y105 :: y106 :: y107 :: y108 :: y109 :: y110 :: y111 :: y112 :: y113 :: y114 :: y115 :: y116 :: y117 :: y118 :: y119 :: y120 :: y121 :: y122 :: y123 :: y124 :: y125 :: y126 :: y127 :: y128 :: y129 :: y130 :: y131 :: y132 :: y133 :: y134 :: y135 :: y136 :: y137 :: y138 :: y139 :: y140 :: y141 :: y142 :: y143 :: y144 :: y145 :: y146 :: y147 :: y148 :: y149 :: y150 :: y151 :: y152 :: y153 :: y154 :: y155 :: y156 :: y157 :: y158 :: y159 :: y160 :: y161 :: y162 :: y163 :: y164 :: u165 :: []), []⟩ wx)
    (fv sv : Value) (r : Nat) (wz : World) (seen front : List Wk) (best : Rt) (rc rk : Int) (oa : Option Addr) (on oc : Nat) (hr1 : 1 ≤ r) (hrn : r ≤ n + 1) (h0 : ST G s0 w0 t C b r wA wz fv sv seen front best rc rk oa on oc) :
    Code.wp Try.prog (Code.loop ((((Try.f5.body.map loopsOf).getD [])[0]?).getD .skip)) Q ⟨List.toArray (u0 :: u1 :: .int .i64 t :: .pointer (some ⟨gb, 0, none⟩) :: u4 :: u5 :: u6 :: u7 :: fv :: sv :: .pointer (some ⟨b, 0, none⟩) :: .int .i64 ((n : Int) + 1 - (r : Int)) :: u12 :: u13 :: u14 :: u15 :: u16 :: u17 :: u18 :: u19 :: u20 :: u21 :: u22 :: u23 :: u24 :: u25 :: u26 :: u27 :: u28 :: u29 :: u30 :: u31 :: u32 :: u33 :: u34 :: u35 :: u36 :: u37 :: u38 :: u39 :: u40 :: u41 :: u42 :: u43 :: u44 :: u45 :: u46 :: u47 :: u48 :: u49 :: u50 :: u51 :: u52 :: u53 :: u54 :: u55 :: u56 :: u57 :: u58 :: u59 :: u60 :: u61 :: u62 :: u63 :: u64 :: u65 :: u66 :: u67 :: u68 :: u69 :: u70 :: u71 :: u72 :: u73 :: u74 :: u75 :: u76 :: u77 :: u78 :: u79 :: u80 :: u81 :: u82 :: u83 :: u84 :: u85 :: u86 :: u87 :: u88 :: u89 :: u90 :: u91 :: u92 :: u93 :: u94 :: u95 :: u96 :: u97 :: u98 :: u99 :: u100 :: u101 :: u102 :: u103 :: u104 :: u105 :: u106 :: u107 :: u108 :: u109 :: u110 :: u111 :: u112 :: u113 :: u114 :: u115 :: u116 :: u117 :: u118 :: u119 :: u120 :: u121 :: u122 :: u123 :: u124 :: u125 :: u126 :: u127 :: u128 :: u129 :: u130 :: u131 :: u132 :: u133 :: u134 :: u135 :: u136 :: u137 :: u138 :: u139 :: u140 :: u141 :: u142 :: u143 :: u144 :: u145 :: u146 :: u147 :: u148 :: u149 :: u150 :: u151 :: u152 :: u153 :: u154 :: u155 :: u156 :: u157 :: u158 :: u159 :: u160 :: u161 :: u162 :: u163 :: u164 :: u165 :: []), []⟩ wz := by
  have HEX : Hid (∀ (fv sv : Value) (r : Nat) (seen front : List Wk) (best : Rt) (rc rk : Int) (oa : Option Addr) (on oc : Nat) (y12 y13 y14 y15 y16 y17 y18 y68 y69 y70 y71 y72 y73 y74 y75 y76 y77 y78 y79 y80 y81 y82 y83 y84 y85 y86 y87 y88 y89 y90 y91 y92 y93 y94 y95 y96 y97 y98 y99 y100 y101 y102 y103 y104 y105 y106 y107 y108 y109 y110 y111 y112 y113 y114 y115 y116 y117 y118 y119 y120 y121 y122 y123 y124 y125 y126 y127 y128 y129 y130 y131 y132 y133 y134 y135 y136 y137 y138 y139 y140 y141 y142 y143 y144 y145 y146 y147 y148 y149 y150 y151 y152 y153 y154 y155 y156 y157 y158 y159 y160 y161 y162 y163 y164 : Value) (wx : World), ST G s0 w0 t C b r wA wx fv sv seen front best rc rk oa on oc → front = [] → Q (.exit 0) ⟨List.toArray (u0 :: u1 :: .int .i64 t :: .pointer (some ⟨gb, 0, none⟩) :: u4 :: u5 :: u6 :: u7 :: fv :: sv :: .pointer (some ⟨b, 0, none⟩) :: .int .i64 ((n : Int) + 1 - (r : Int)) :: y12 :: y13 :: y14 :: y15 :: y16 :: y17 :: y18 :: u19 :: u20 :: u21 :: u22 :: u23 :: u24 :: u25 :: u26 :: u27 :: u28 :: u29 :: u30 :: u31 :: u32 :: u33 :: u34 :: u35 :: u36 :: u37 :: u38 :: u39 :: u40 :: u41 :: u42 :: u43 :: u44 :: u45 :: u46 :: u47 :: u48 :: u49 :: u50 :: u51 :: u52 :: u53 :: u54 :: u55 :: u56 :: u57 :: u58 :: u59 :: u60 :: u61 :: u62 :: u63 :: u64 :: u65 :: u66 :: u67 :: y68 :: y69 :: y70 :: y71 :: y72 :: y73 :: y74 :: y75 :: y76 :: y77 :: y78 :: y79 :: y80 :: y81 :: y82 :: y83 :: y84 :: y85 :: y86 :: y87 :: y88 :: y89 :: y90 :: y91 :: y92 :: y93 :: y94 :: y95 :: y96 :: y97 :: y98 :: y99 :: y100 :: y101 :: y102 :: y103 :: y104 :: y105 :: y106 :: y107 :: y108 :: y109 :: y110 :: y111 :: y112 :: y113 :: y114 :: y115 :: y116 :: y117 :: y118 :: y119 :: y120 :: y121 :: y122 :: y123 :: y124 :: y125 :: y126 :: y127 :: y128 :: y129 :: y130 :: y131 :: y132 :: y133 :: y134 :: y135 :: y136 :: y137 :: y138 :: y139 :: y140 :: y141 :: y142 :: y143 :: y144 :: y145 :: y146 :: y147 :: y148 :: y149 :: y150 :: y151 :: y152 :: y153 :: y154 :: y155 :: y156 :: y157 :: y158 :: y159 :: y160 :: y161 :: y162 :: y163 :: y164 :: u165 :: []), []⟩ wx) := hexit
  clear hexit
  have H0 : Hid (ST G s0 w0 t C b r wA wz fv sv seen front best rc rk oa on oc) := h0
  clear h0
  have hnv : n ≤ 6000 := by have := HVG.out.v; rw [HN.out] at this; exact this
  conv => arg 2; arg 1; whnf
  go_loopw [8, 9, 11, 12, 13, 14, 15, 16, 17, 18] (fun f8 s9 r11 _ _ _ _ _ _ _ wr => ∃ (r : Nat) (seen front : List Wk) (best : Rt) (rc rk : Int) (oa : Option Addr) (on oc : Nat), 1 ≤ r ∧ r ≤ n + 1 ∧ r11 = .int .i64 ((n : Int) + 1 - (r : Int)) ∧ Hid (ST G s0 w0 t C b r wA wr f8 s9 seen front best rc rk oa on oc)) (fun _ _ r11 _ _ _ _ _ _ _ _ => (intOf r11).toNat)
  case atStart => exact ⟨r, _, _, _, _, _, _, _, _, hr1, hrn, rfl, H0⟩
  clear H0 hr1 hrn
  obtain ⟨r, seen, front, best, rc, rk, oa, on, oc, hr1, hrn, rfl, HS⟩ := hrel
  obtain ⟨fa, fc, hfs⟩ := HS.out.of.slice
  obtain ⟨sa, sc, hss⟩ := HS.out.os.slice
  generalize hm : front.length = m at *
  have HM : Hid (front.length = m) := hm
  generalize hsl : seen.length = sl at *
  have HSLN : Hid (seen.length = sl) := hsl
  subst hfs hss
  clear hm hsl
  have HSG : Hid (s0 < G.eo.length) := by unfold Hid; rw [HN.out]; exact HS0.out
  by_cases hrr : r = n + 1
  · have HE : Hid (front = []) := HS.out.lv.end HS0.out (by intro v u k hm; rw [← HN.out]; exact arcs_lt HVG.out v u k hm) (fun v u k hm => (arcs_co HVG.out v u k hm).1) (by omega)
    have d1 : decide ((0 : Int) < (n : Int) + 1 - r) = false := decide_eq_false (by omega)
    have d1' : decide ((r : Int) < (n : Int) + 1) = false := decide_eq_false (by omega)
    clear hrr
    go_wp2
    exact HEX.out _ _ _ _ _ _ _ _ _ _ _ _ _ _ _ _ _ _ _ _ _ _ _ _ _ _ _ _ _ _ _ _ _ _ _ _ _ _ _ _ _ _ _ _ _ _ _ _ _ _ _ _ _ _ _ _ _ _ _ _ _ _ _ _ _ _ _ _ _ _ _ _ _ _ _ _ _ _ _ _ _ _ _ _ _ _ _ _ _ _ _ _ _ _ _ _ _ _ _ _ _ _ _ _ _ _ _ _ _ _ _ _ _ _ _ _ HS.out HE.out
  have d1 : decide ((0 : Int) < (n : Int) + 1 - r) = true := decide_eq_true (by omega)
  have d1' : decide ((r : Int) < (n : Int) + 1) = true := decide_eq_true (by omega)
  by_cases hme : m = 0
  · have HE : Hid (front = []) := List.length_eq_zero_iff.1 (by rw [HM.out]; exact hme)
    have d2 : decide ((0 : Int) < (m : Int)) = false := decide_eq_false (by omega)
    have d2' : decide (0 < m) = false := decide_eq_false (by omega)
    clear hme
    go_wp2
    exact HEX.out _ _ _ _ _ _ _ _ _ _ _ _ _ _ _ _ _ _ _ _ _ _ _ _ _ _ _ _ _ _ _ _ _ _ _ _ _ _ _ _ _ _ _ _ _ _ _ _ _ _ _ _ _ _ _ _ _ _ _ _ _ _ _ _ _ _ _ _ _ _ _ _ _ _ _ _ _ _ _ _ _ _ _ _ _ _ _ _ _ _ _ _ _ _ _ _ _ _ _ _ _ _ _ _ _ _ _ _ _ _ _ _ _ _ _ _ HS.out HE.out
  have d2 : decide ((0 : Int) < (m : Int)) = true := decide_eq_true (by omega)
  have d2' : decide (0 < m) = true := decide_eq_true (by omega)
  have HFK : Hid (∀ x ∈ front, ∃ v : Nat, v < G.eo.length ∧ x.key = [(v : Int)]) := HS.out.fkeys HVG.out HSG.out
  have HFE : Hid (∀ x ∈ front, x.E.length ≤ 10000 ∧ 0 ≤ x.c ∧ x.c ≤ 40000000000) := fun x hx => by
    have := HS.out.flen HVG.out HSG.out HW0.out (by omega) hx
    omega
  have HML : Hid (m ≤ n) := by unfold Hid; rw [← HM.out, ← HN.out]; exact kp_len HS.out.kf HFK.out
  have HSL2 : Hid (sl ≤ n) := by
    unfold Hid
    rw [← HSLN.out, ← HN.out]
    exact kp_len HS.out.kp (HS.out.keys HVG.out HSG.out)
  have HCr : Hid (C ≤ wr.heap.size) := by unfold Hid; rw [HCA.out]; exact HS.out.nx.size
  have HK0 : Hid (KX G C wr seen front 0 0 (.slice (some ⟨wr.heap.size, 0, none⟩) 0 0) (wr.alloc (.cells #[] 39))) := ⟨[], ownK_nil _ _ HCr.out, NW.start G seen front, fun g e => by simp [Value.ownBlock] at e; omega, box1 _ _⟩
  have HHr : Hid (HG B wr (.slice a0 m0 c0) (.slice a1 m1 c1) (.slice a2 m2 c2) (.slice a3 m3 c3) (.slice a4 m4 c4) (.slice a5 m5 c5) (.slice a6 m6 c6) G) := HH.out.next HS.out.nx
  have HBr : Hid (Blk wr gb #[.slice a0 m0 c0, .slice a1 m1 c1, .slice a2 m2 c2, .slice a3 m3 c3, .slice a4 m4 c4, .slice a5 m5 c5, .slice a6 m6 c6]) := HB.out.next HS.out.nx
  have hrlt : r ≤ n := by omega
  clear hme hrr
  go_wp2
  clear d1 d1' d2 d2'
  refine short_l2 (C := C) HVG HS HHr HBr HCr HFE HFK HM (by have := HML.out; omega) _ _ _ _ _ _ _ _ _ _ _ _ _ _ _ _ _ _ _ _ _ _ _ _ _ _ _ _ _ _ _ _ _ _ _ _ _ _ _ _ _ _ _ _ _ _ _ _ _ _ _ _ _ _ _ _ _ _ _ _ _ _ _ _ _ _ _ _ _ _ _ _ _ _ _ _ _ _ _ _ _ _ _ _ _ _ _ _ _ _ _ _ _ _ _ _ _ _ _ _ _ _ _ _ _ _ _ _ _ _ _ _ _ _ _ _ _ _ _ _ _ _ _ _ _ _ _ _ _ _ _ _ _ _ _ _ _ _ _ _ _ _ _ _ _ _ _ _ _ _ _ _ _ _ _ _ _ _ _ _ _ _ ?_ _ 0 _ rfl HK0.out
  intro nv i y14 y15 y16 y17 y18 y78 y79 y80 y81 y82 y83 y84 y85 y86 y87 y88 y89 y90 y91 y92 y93 y94 y95 y96 y97 y98 y99 y100 y101 y102 y103 y104 y105 y106 y107 y108 y109 y110 y111 y112 y113 y114 y115 y116 y117 y118 y119 y120 y121 y122 y123 y124 y125 y126 y127 y128 y129 y130 y131 y132 y133 y134 y135 y136 y137 y138 y139 y140 y141 y142 y143 y144 y145 y146 y147 y148 y149 y150 y151 y152 y153 y154 wx hK hi
  have HI : Hid (front.length ≤ i) := hi
  obtain ⟨R, hK1, hK2, hK3, hK4⟩ := hK
  have HR : Hid (OwnK C wx nv R) := hK1
  have HNW : Hid (NW G seen front i 0 R) := hK2
  have HX : Hid (Nx wr wx) := hK4
  have HRL : Hid (R.length ≤ 6000) := by have := kp_len hK2.1 (hK2.key HVG.out); have := HVG.out.v; unfold Hid; omega
  obtain ⟨na, nc, hns⟩ := hK1.slice
  generalize R.length = nn at hns
  subst hns
  have HSx := HS.out.next HX.out
  have HOSx : Hid (OwnK C wx (.slice sa sl sc) seen) := HSx.os
  have HCx : Hid (C ≤ wx.heap.size) := Nat.le_trans HCr.out HX.out.size
  have HKPS : Hid (KP seen) := HS.out.kp
  clear hi hK1 hK2 hK3 hK4 HK0 HSx
  go_wp2_with fail
  refine (l5Fresh_any C _ _ R seen _ (by exact HR.out) (by exact HOSx.out) HKPS.out.ku (by have := HRL.out; omega) HCx.out).mono ?_
  rintro e w1 ⟨⟨fv1, rfl, hf1, hfb⟩, hx1⟩
  have HF1 : Hid (OwnK C w1 fv1 (freshW R seen)) := hf1
  have HFB : Hid (∀ g, fv1.ownBlock = some g → wx.heap.size ≤ g) := hfb
  have HX1 : Hid (Nx wx w1) := hx1
  have HFL : Hid ((freshW R seen).length ≤ 6000) := by have h1 := HRL.out; have h2 := List.length_filter_le (cheapB seen) R; unfold Hid freshW; omega
  have HAP : Hid (∀ g, (Value.slice sa sl sc).ownBlock = some g → fv1.ownBlock ≠ some g) := fun g e e' => by
    have q1 := (ownK_lt HS.out.os g e).2
    have q2 := hfb g e'
    have q3 := HX.out.size
    omega
  obtain ⟨f1a, f1c, hf1s⟩ := hf1.slice
  generalize hf1n : (freshW R seen).length = f1n at hf1s
  clear hf1n
  subst hf1s
  clear hf1 hfb hx1
  go_wp2_with fail
  refine (l5See_any C _ _ seen (freshW R seen) _ (by exact HOSx.out.next HX1.out) (by exact HF1.out) HKPS.out HAP.out (by have h1 := HFL.out; have h2 := HSL2.out; have h3 := HSLN.out; omega) (by have h1 := HCx.out; have h2 := HX1.out.size; omega)).mono ?_
  rintro e w2 ⟨sv1, rfl, hs1, hsb, hon⟩
  have HS1 : Hid (OwnK C w2 sv1 (seeW seen (freshW R seen))) := hs1
  have HSB : Hid (∀ g, sv1.ownBlock = some g → (Value.slice sa sl sc).ownBlock = some g ∨ w1.heap.size ≤ g) := hsb
  have HON : Hid (Onl (Value.slice sa sl sc).ownBlock w1 w2) := hon
  have HWR : Hid (WRow w1 (Value.slice sa sl sc).ownBlock) := (HOSx.out.next HX1.out).wrow
  have HBX1 : Hid (RBox w1 b rc rk oa on oc) := (HS.out.next (HX.out.trans HX1.out)).bx
  have HBX2 : Hid (RBox w2 b rc rk oa on oc) := (hon.block b (Array.getElem?_eq_some_iff.1 HBX1.out).1 (fun e => HS.out.sb b e.symm rfl)).trans HBX1.out
  have HRT2 : Hid (HRt C w2 rc rk oa on oc best) := by
    have h := (HS.out.next (HX.out.trans HX1.out)).rt
    exact ⟨h.1, h.2.1, h.2.2.onl hon HWR.out⟩
  have HF2 : Hid (OwnK C w2 (.slice f1a f1n f1c) (freshW R seen)) := HF1.out.onl hon HWR.out (fun g e e' => HAP.out g e' e)
  have HFE1 : Hid (∀ x ∈ freshW R seen, 1 ≤ x.E.length ∧ x.E.length ≤ 1000000) := fun x hx => by
    obtain ⟨hp, C', hB, hC'⟩ := HNW.out.full HVG.out HI.out (HS.out.fkeys HVG.out HSG.out)
    have hl := HS.out.lv.up hC' hB hp
    have := ((hl.f x).1 hx).2
    omega
  obtain ⟨s1a, s1c, hs1s⟩ := hs1.slice
  generalize (seeW seen (freshW R seen)).length = s1n at hs1s
  subst hs1s
  clear hs1 hsb hon
  have y0 : w2.cell? ⟨b, 0, none⟩ = some (.int .i64 rc) := HBX2.out.blk.cell (i := 0) rfl
  have y1 : w2.cell? ⟨b, 1, none⟩ = some (.int .i64 rk) := HBX2.out.blk.cell (i := 1) rfl
  have y2 : w2.cell? ⟨b, 2, none⟩ = some (.slice oa on oc) := HBX2.out.blk.cell (i := 2) rfl
  go_wp2_with fail
  refine (l5Best_any C _ (freshW R seen) best rc rk oa on oc t _ (by exact HF2.out) HRT2.out HFE1.out (by have := HFL.out; omega)).mono ?_
  rintro e w3 ⟨⟨rc1, rk1, oa1, on1, oc1, rfl, hR1⟩, hx3⟩
  have HFIN : Hid (ST G s0 w0 t C b (r + 1) wA (((w3.setCell ⟨b, 0, none⟩ (.int .i64 rc1)).setCell ⟨b, 1, none⟩ (.int .i64 rk1)).setCell ⟨b, 2, none⟩ (.slice oa1 on1 oc1)) (.slice f1a f1n f1c) (.slice s1a s1n s1c) (seeW seen (freshW R seen)) (freshW R seen) (bestW t best (freshW R seen)) rc1 rk1 oa1 on1 oc1) :=
    ST.up HVG.out HSG.out HS.out HCA.out HBC.out HNW.out HI.out HX.out HF1.out HFB.out HX1.out HS1.out HSB.out HON.out hR1 hx3
  have BX3 : Hid (RBox w3 b rc rk oa on oc) := (hx3.block b (Array.getElem?_eq_some_iff.1 HBX2.out).1).trans HBX2.out
  clear y0 y1 y2
  have y0 : w3.cell? ⟨b, 0, none⟩ = some (.int .i64 rc) := BX3.out.blk.cell (i := 0) rfl
  have y1 : w3.cell? ⟨b, 1, none⟩ = some (.int .i64 rk) := BX3.out.blk.cell (i := 1) rfl
  have y2 : w3.cell? ⟨b, 2, none⟩ = some (.slice oa on oc) := BX3.out.blk.cell (i := 2) rfl
  have z0 := BX3.out.blk.frozen 0
  have z1 := BX3.out.blk.frozen 1
  have z2 := BX3.out.blk.frozen 2
  clear hR1 hx3
  go_wp2
  go_roundw
  case rel => exact ⟨r + 1, _, _, _, _, _, _, _, _, by omega, by omega, by go_num, HFIN⟩
  case measure => simp [intOf]; omega
end Go.Proofs.Yticooljejlkbfaa
