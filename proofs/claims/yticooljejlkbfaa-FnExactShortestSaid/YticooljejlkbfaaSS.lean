import Derived.Test.YticooljejlkbfaaSR
namespace Go.Proofs.Yticooljejlkbfaa
open Go.RowKit Go.Sort
set_option linter.unusedVariables false
set_option maxRecDepth 1000000

theorem KX.opened {G : Gr} {C : Nat} {wr : World} {seen front : List Wk} {i v : Nat} {nv : Value} {wx : World} (h : KX G C wr seen front i 0 nv wx) (hi : i < front.length) (hk : (wkat front i).key = [(v : Int)]) : KX G C wr seen front i (fst G v) nv wx := by
  obtain ⟨R, h1, h2, h3, h4⟩ := h
  exact ⟨R, h1, h2.open hi hk, h3, h4⟩
theorem KX.closed {G : Gr} {C : Nat} {wr : World} {seen front : List Wk} {i v k : Nat} {nv : Value} {wx : World} (h : KX G C wr seen front i k nv wx) (hk : (wkat front i).key = [(v : Int)]) (hke : fst G (v + 1) ≤ k) : KX G C wr seen front (i + 1) 0 nv wx := by
  obtain ⟨R, h1, h2, h3, h4⟩ := h
  exact ⟨R, h1, h2.close hk hke, h3, h4⟩
theorem KX.slice {G : Gr} {C : Nat} {wr : World} {seen front : List Wk} {i k : Nat} {nv : Value} {wx : World} (h : KX G C wr seen front i k nv wx) : ∃ a n c, nv = .slice a n c := by
  obtain ⟨R, h1, _⟩ := h
  obtain ⟨a, c, e⟩ := h1.slice
  exact ⟨a, _, c, e⟩

set_option maxHeartbeats 16000000 in
theorem short_l2 {G : Gr} {s0 : Nat} {w0 t : Int} {B C b r gb : Nat} {wA wR : World} {fa : Option Addr} {m fc : Nat} {sa : Option Addr} {sl sc : Nat} {seen front : List Wk} {best : Rt} {rc rk : Int} {oa : Option Addr} {on oc : Nat} {a0 a1 a2 a3 a4 a5 a6 : Option Addr} {m0 m1 m2 m3 m4 m5 m6 c0 c1 c2 c3 c4 c5 c6 : Nat} (HVG : Hid (VG G)) (HS : Hid (ST G s0 w0 t C b r wA wR (.slice fa m fc) (.slice sa sl sc) seen front best rc rk oa on oc)) (HH : Hid (HG B wR (.slice a0 m0 c0) (.slice a1 m1 c1) (.slice a2 m2 c2) (.slice a3 m3 c3) (.slice a4 m4 c4) (.slice a5 m5 c5) (.slice a6 m6 c6) G)) (HB : Hid (Blk wR gb #[.slice a0 m0 c0, .slice a1 m1 c1, .slice a2 m2 c2, .slice a3 m3 c3, .slice a4 m4 c4, .slice a5 m5 c5, .slice a6 m6 c6])) (HC : Hid (C ≤ wR.heap.size)) (HFE : Hid (∀ x ∈ front, x.E.length ≤ 10000 ∧ 0 ≤ x.c ∧ x.c ≤ 40000000000)) (HFK : Hid (∀ x ∈ front, ∃ v : Nat, v < G.eo.length ∧ x.key = [(v : Int)])) (HM : Hid (front.length = m)) (hm6 : m ≤ 6000) (u0 u1 u2 u4 u5 u6 u7 u10 u11 u14 u15 u16 u17 u18 u19 u20 u21 u22 u23 u24 u25 u26 u27 u28 u29 u30 u31 u32 u33 u34 u35 u36 u37 u38 u39 u40 u41 u42 u43 u44 u45 u46 u47 u48 u49 u50 u51 u52 u53 u54 u55 u56 u57 u58 u59 u60 u61 u62 u63 u64 u65 u66 u67 u68 u69 u70 u71 u72 u73 u74 u75 u76 u77 u78 u79 u80 u81 u82 u83 u84 u85 u86 u87 u88 u89 u90 u91 u92 u93 u94 u95 u96 u97 u98 u99 u100 u101 u102 u103 u104 u105 u106 u107 u108 u109 u110 u111 u112 u113 u114 u115 u116 u117 u118 u119 u120 u121 u122 u123 u124 u125 u126 u127 u128 u129 u130 u131 u132 u133 u134 u135 u136 u137 u138 u139 u140 u141 u142 u143 u144 u145 u146 u147 u148 u149 u150 u151 u152 u153 u154 u155 u156 u157 u158 u159 u160 u161 u162 u163 u164 u165 : Value) (Q : Exit → Act → World → Prop)
    (hexit : ∀ (nv : Value) (i : Nat) (y14 y15 y16 y17 y18 y78 y79 y80 y81 y82 y83 y84 y85 y86 y87 y88 y89 y90 y91 y92 y93 y94 y95 y96 y97 y98 y99 y100 y101 y102 y103 y104 y105 y106 y107 y108 y109 y110 y111 y112 y113 y114 y115 y116 y117 y118 y119 y120 y121 y122 y123 y124 y125 y126 y127 y128 y129 y130 y131 y132 y133 y134 y135 y136 y137 y138 y139 y140 y141 y142 y143 y144 y145 y146 y147 y148 y149 y150 y151 y152 y153 y154 : Value) (wx : World), KX G C wR seen front i 0 nv wx → front.length ≤ i → Q (.exit 2) ⟨List.toArray (u0 :: u1 :: u2 :: .pointer (some ⟨gb, 0, none⟩) :: u4 :: u5 :: u6 :: u7 :: .slice fa m fc :: .slice sa sl sc :: u10 :: u11 :: nv :: .int .i64 (i : Int) :: y14 :: y15 :: y16 :: y17 :: y18 :: u19 :: u20 :: u21 :: u22 :: u23 :: u24 :: u25 :: u26 :: u27 :: u28 :: u29 :: u30 :: u31 :: u32 :: u33 :: u34 :: u35 :: u36 :: u37 :: u38 :: u39 :: u40 :: u41 :: u42 :: u43 :: u44 :: u45 :: u46 :: u47 :: u48 :: u49 :: u50 :: u51 :: u52 :: u53 :: u54 :: u55 :: u56 :: u57 :: u58 :: u59 :: u60 :: u61 :: u62 :: u63 :: u64 :: u65 :: u66 :: u67 :: u68 :: u69 :: u70 :: u71 :: u72 :: u73 :: u74 :: u75 :: u76 :: u77 :: y78 :: y79 :: y80 :: y81 :: y82 :: y83 :: y84 :: y85 :: y86 :: y87 :: y88 :: y89 :: y90 :: y91 :: y92 :: y93 :: y94 :: y95 :: y96 :: y97 :: y98 :: y99 :: y100 :: y101 :: y102 :: y103 :: y104 :: y105 :: y106 :: y107 :: y108 :: y109 :: y110 :: y111 :: y112 :: y113 :: y114 :: y115 :: y116 :: y117 :: y118 :: y119 :: y120 :: y121 :: y122 :: y123 :: y124 :: y125 :: y126 :: y127 :: y128 :: y129 :: y130 :: y131 :: y132 :: y133 :: y134 :: y135 :: y136 :: y137 :: y138 :: y139 :: y140 :: y141 :: y142 :: y143 :: y144 :: y145 :: y146 :: y147 :: y148 :: y149 :: y150 :: y151 :: y152 :: y153 :: y154 :: u155 :: u156 :: u157 :: u158 :: u159 :: u160 :: u161 :: u162 :: u163 :: u164 :: u165 :: []), []⟩ wx)
    (nv : Value) (i : Nat) (wz : World) (hi0 : i = 0) (h0 : KX G C wR seen front i 0 nv wz) :
    Code.wp Try.prog (Code.loop ((((Try.f5.body.map loopsOf).getD [])[1]?).getD .skip)) Q ⟨List.toArray (u0 :: u1 :: u2 :: .pointer (some ⟨gb, 0, none⟩) :: u4 :: u5 :: u6 :: u7 :: .slice fa m fc :: .slice sa sl sc :: u10 :: u11 :: nv :: .int .i64 (i : Int) :: u14 :: u15 :: u16 :: u17 :: u18 :: u19 :: u20 :: u21 :: u22 :: u23 :: u24 :: u25 :: u26 :: u27 :: u28 :: u29 :: u30 :: u31 :: u32 :: u33 :: u34 :: u35 :: u36 :: u37 :: u38 :: u39 :: u40 :: u41 :: u42 :: u43 :: u44 :: u45 :: u46 :: u47 :: u48 :: u49 :: u50 :: u51 :: u52 :: u53 :: u54 :: u55 :: u56 :: u57 :: u58 :: u59 :: u60 :: u61 :: u62 :: u63 :: u64 :: u65 :: u66 :: u67 :: u68 :: u69 :: u70 :: u71 :: u72 :: u73 :: u74 :: u75 :: u76 :: u77 :: u78 :: u79 :: u80 :: u81 :: u82 :: u83 :: u84 :: u85 :: u86 :: u87 :: u88 :: u89 :: u90 :: u91 :: u92 :: u93 :: u94 :: u95 :: u96 :: u97 :: u98 :: u99 :: u100 :: u101 :: u102 :: u103 :: u104 :: u105 :: u106 :: u107 :: u108 :: u109 :: u110 :: u111 :: u112 :: u113 :: u114 :: u115 :: u116 :: u117 :: u118 :: u119 :: u120 :: u121 :: u122 :: u123 :: u124 :: u125 :: u126 :: u127 :: u128 :: u129 :: u130 :: u131 :: u132 :: u133 :: u134 :: u135 :: u136 :: u137 :: u138 :: u139 :: u140 :: u141 :: u142 :: u143 :: u144 :: u145 :: u146 :: u147 :: u148 :: u149 :: u150 :: u151 :: u152 :: u153 :: u154 :: u155 :: u156 :: u157 :: u158 :: u159 :: u160 :: u161 :: u162 :: u163 :: u164 :: u165 :: []), []⟩ wz := by
  have HEX : Hid (∀ (nv : Value) (i : Nat) (y14 y15 y16 y17 y18 y78 y79 y80 y81 y82 y83 y84 y85 y86 y87 y88 y89 y90 y91 y92 y93 y94 y95 y96 y97 y98 y99 y100 y101 y102 y103 y104 y105 y106 y107 y108 y109 y110 y111 y112 y113 y114 y115 y116 y117 y118 y119 y120 y121 y122 y123 y124 y125 y126 y127 y128 y129 y130 y131 y132 y133 y134 y135 y136 y137 y138 y139 y140 y141 y142 y143 y144 y145 y146 y147 y148 y149 y150 y151 y152 y153 y154 : Value) (wx : World), KX G C wR seen front i 0 nv wx → front.length ≤ i → Q (.exit 2) ⟨List.toArray (u0 :: u1 :: u2 :: .pointer (some ⟨gb, 0, none⟩) :: u4 :: u5 :: u6 :: u7 :: .slice fa m fc :: .slice sa sl sc :: u10 :: u11 :: nv :: .int .i64 (i : Int) :: y14 :: y15 :: y16 :: y17 :: y18 :: u19 :: u20 :: u21 :: u22 :: u23 :: u24 :: u25 :: u26 :: u27 :: u28 :: u29 :: u30 :: u31 :: u32 :: u33 :: u34 :: u35 :: u36 :: u37 :: u38 :: u39 :: u40 :: u41 :: u42 :: u43 :: u44 :: u45 :: u46 :: u47 :: u48 :: u49 :: u50 :: u51 :: u52 :: u53 :: u54 :: u55 :: u56 :: u57 :: u58 :: u59 :: u60 :: u61 :: u62 :: u63 :: u64 :: u65 :: u66 :: u67 :: u68 :: u69 :: u70 :: u71 :: u72 :: u73 :: u74 :: u75 :: u76 :: u77 :: y78 :: y79 :: y80 :: y81 :: y82 :: y83 :: y84 :: y85 :: y86 :: y87 :: y88 :: y89 :: y90 :: y91 :: y92 :: y93 :: y94 :: y95 :: y96 :: y97 :: y98 :: y99 :: y100 :: y101 :: y102 :: y103 :: y104 :: y105 :: y106 :: y107 :: y108 :: y109 :: y110 :: y111 :: y112 :: y113 :: y114 :: y115 :: y116 :: y117 :: y118 :: y119 :: y120 :: y121 :: y122 :: y123 :: y124 :: y125 :: y126 :: y127 :: y128 :: y129 :: y130 :: y131 :: y132 :: y133 :: y134 :: y135 :: y136 :: y137 :: y138 :: y139 :: y140 :: y141 :: y142 :: y143 :: y144 :: y145 :: y146 :: y147 :: y148 :: y149 :: y150 :: y151 :: y152 :: y153 :: y154 :: u155 :: u156 :: u157 :: u158 :: u159 :: u160 :: u161 :: u162 :: u163 :: u164 :: u165 :: []), []⟩ wx) := hexit
  clear hexit
  have H0 : Hid (KX G C wR seen front i 0 nv wz) := h0
  have him : i ≤ m := by omega
  clear h0 hi0
  conv => arg 2; arg 1; whnf
  go_loopw [12, 13, 14, 15, 16, 17, 18] (fun n12 i13 _ _ _ _ _ wx => ∃ i : Nat, i ≤ m ∧ i13 = .int .i64 (i : Int) ∧ Hid (KX G C wR seen front i 0 n12 wx)) (fun _ i13 _ _ _ _ _ _ => m - (intOf i13).toNat)
  case atStart => exact ⟨i, him, rfl, H0⟩
  clear H0 him
  obtain ⟨i, him, rfl, HKX⟩ := hrel
  by_cases hlt : i < m
  case neg =>
    have d1 : decide ((i : Int) < (m : Int)) = false := decide_eq_false (by omega)
    have d1' : decide (i < m) = false := decide_eq_false hlt
    have HL : Hid (front.length ≤ i) := by unfold Hid; rw [HM.out]; omega
    go_wp2
    exact HEX.out _ _ _ _ _ _ _ _ _ _ _ _ _ _ _ _ _ _ _ _ _ _ _ _ _ _ _ _ _ _ _ _ _ _ _ _ _ _ _ _ _ _ _ _ _ _ _ _ _ _ _ _ _ _ _ _ _ _ _ _ _ _ _ _ _ _ _ _ _ _ _ _ _ _ _ _ _ _ _ _ _ _ _ _ _ HKX.out HL.out
  have d1 : decide ((i : Int) < (m : Int)) = true := decide_eq_true (by omega)
  have d1' : decide (i < m) = true := decide_eq_true hlt
  have him' : (i : Int) < m := by omega
  have HI : Hid (i < front.length) := by unfold Hid; rw [HM.out]; exact hlt
  have HX : Hid (Nx wR wr) := HKX.out.nx
  obtain ⟨v, hv, hkey⟩ := HFK.out _ (wkat_mem HI.out)
  have HV : Hid (v < G.eo.length) := hv
  have HKEY : Hid ((wkat front i).key = [(v : Int)]) := hkey
  have HKO : Hid (KX G C wR seen front i (fst G v) u12 wr) := HKX.out.opened HI.out hkey
  have HBx : Hid (Blk wr gb #[.slice a0 m0 c0, .slice a1 m1 c1, .slice a2 m2 c2, .slice a3 m3 c3, .slice a4 m4 c4, .slice a5 m5 c5, .slice a6 m6 c6]) := HB.out.next HX.out
  obtain ⟨fg, ev, kv, hfg, _, _, f0, f1, f2, _, hkv, _⟩ := (HS.out.next HX.out).of.at HI.out
  rw [hkey] at hkv
  obtain ⟨ka, kc, hks⟩ := hkv.slice
  rw [List.length_singleton] at hks
  subst hks
  obtain ⟨kg, hka, x0⟩ := hkv.cell (i := 0) (by simp)
  subst hka
  rw [show iat [(v : Int)] 0 = (v : Int) from rfl] at x0
  have HFA : Hid (fa = some ⟨fg, 0, none⟩) := hfg
  obtain ⟨e2, b2, o2, ha2, hc2⟩ := (HH.out.next HX.out).h2.row (by have := HVG.out.lf; omega)
  have HA2 : Hid (a2 = some ⟨b2, o2, none⟩) := ha2
  have hvm2 : (v : Int) < m2 := by have := HVG.out.lf; have := HV.out; omega
  have k2 : wr.cell? ⟨gb, 2, none⟩ = some (.slice (some ⟨b2, o2, none⟩) m2 c2) := by rw [← ha2]; exact HBx.out.cell (i := 2) rfl
  have x2 : wr.cell? ⟨b2, o2 + v, none⟩ = some (.int .i64 (fst G v : Int)) := by
    rw [← (fst_eq HVG.out (show v ≤ G.eo.length by omega)).1]
    exact hc2 v (by have := HVG.out.lf; omega)
  have hfv : fst G v ≤ 40000 := by have := (fst_eq HVG.out (show v ≤ G.eo.length by omega)).2; have := HVG.out.t; omega
  have hvv : v ≤ 6000 := by have := HVG.out.v; omega
  clear e2 hc2 ha2 hkv f0 f1 hkey hv HBx
  subst hfg
  obtain ⟨na, nn, nc, hns⟩ := HKX.out.slice
  subst hns
  go_wp2
  refine short_l3 (i := i) (v := v) HVG HS HH HB HC HFE HI HV HKEY _ _ _ _ _ _ _ _ _ _ _ _ _ _ _ _ _ _ _ _ _ _ _ _ _ _ _ _ _ _ _ _ _ _ _ _ _ _ _ _ _ _ _ _ _ _ _ _ _ _ _ _ _ _ _ _ _ _ _ _ _ _ _ _ _ _ _ _ _ _ _ _ _ _ _ _ _ _ _ _ _ _ _ _ _ _ _ _ _ _ _ _ _ _ _ _ _ _ _ _ _ _ _ _ _ _ _ _ _ _ _ _ _ _ _ _ _ _ _ _ _ _ _ _ _ _ _ _ _ _ _ _ _ _ _ _ _ _ _ _ _ _ _ _ _ _ _ _ _ _ _ _ _ _ _ _ _ _ _ _ ?_ _ _ _ rfl HKO.out
  intro nv k y16 y17 y18 y96 y97 y98 y99 y100 y101 y102 y103 y104 y105 y106 y107 y108 y109 y110 y111 y112 y113 y114 y115 y116 y117 y118 y119 y120 y121 y122 y123 y124 y125 y126 y127 y128 y129 y130 y131 y132 y133 y134 y135 y136 y137 y138 y139 y140 y141 y142 y143 y144 y145 y146 y147 y148 y149 y150 y151 y152 y153 y154 wx hK hke
  have HF : Hid (KX G C wR seen front (i + 1) 0 nv wx) := hK.closed HKEY.out hke
  clear hK
  go_wp2
  go_roundw
  case rel => exact ⟨i + 1, by omega, by go_num, HF⟩
  case measure => simp [intOf]; omega
end Go.Proofs.Yticooljejlkbfaa
