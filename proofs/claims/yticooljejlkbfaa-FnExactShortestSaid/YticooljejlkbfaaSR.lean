import Derived.Test.YticooljejlkbfaaSN
namespace Go.Proofs.Yticooljejlkbfaa
open Go.RowKit Go.Sort
set_option linter.unusedVariables false
set_option maxRecDepth 1000000

def loopsOf : Code → List Code
  | .loop c => c :: loopsOf c
  | .seq a b => loopsOf a ++ loopsOf b
  | .block _ c => loopsOf c
  | .scope c => loopsOf c
  | .cond _ a b => loopsOf a ++ loopsOf b
  | _ => []

theorem HInts.row {B : Nat} {w : World} {a : Option Addr} {n c : Nat} {zs : List Int} (h : HInts B w (.slice a n c) zs) (hp : 0 < zs.length) : n = zs.length ∧ ∃ b o, a = some ⟨b, o, none⟩ ∧ ∀ i, i < zs.length → w.cell? ⟨b, o + i, none⟩ = some (.int .i64 (iat zs i)) := by
  obtain ⟨a', c', e, hm, hk⟩ := h
  simp only [Value.slice.injEq] at e
  obtain ⟨rfl, rfl, rfl⟩ := e
  obtain ⟨b, o, e1, _, _, e2⟩ := hk hp
  exact ⟨rfl, b, o, e1, e2⟩
theorem HInts.len {B : Nat} {w : World} {a : Option Addr} {n c : Nat} {zs : List Int} (h : HInts B w (.slice a n c) zs) : n = zs.length := by
  obtain ⟨a', c', e, hm, hk⟩ := h
  simp only [Value.slice.injEq] at e
  exact e.2.1
theorem nx_drewN (w : World) (n : Nat) : Nx w (w.drewN n) := below_drewN (Nx.refl w) n
theorem own1 {w : World} {g : Nat} {z : Int} (C : Nat) (hC : C ≤ g) (h : w.heap[g]? = some (.cells #[.int .i64 z] 2 (0, 0))) : OwnI C w (.slice (some ⟨g, 0, none⟩) 1 1) [z] := by
  refine ⟨rfl, Or.inr ⟨g, 1, #[.int .i64 z], rfl, hC, h, Nat.le_refl _, by simp [maxLen], by simp, by simp [icells]⟩⟩

theorem hn_base {w : World} {o : Obj} {g : Nat} (h : g = w.heap.size) : (w.alloc o).heap[g]? = some o := by
  subst h
  show (w.heap.push _)[w.heap.size]? = _
  rw [Array.getElem?_push, if_pos rfl]
theorem hn_drew {w : World} {o : Obj} {g : Nat} (h : w.heap[g]? = some o) : w.drew.heap[g]? = some o := h
theorem hn_alloc {w : World} {o o' : Obj} {g : Nat} (h : w.heap[g]? = some o) : (w.alloc o').heap[g]? = some o := by
  show (w.heap.push _)[g]? = _
  rw [Array.getElem?_push, if_neg (by have := (Array.getElem?_eq_some_iff.1 h).1; omega)]
  exact h
theorem hn_nx {w w' : World} {o : Obj} {g : Nat} (k : Nx w w') (h : w.heap[g]? = some o) : w'.heap[g]? = some o := (k.block g (Array.getElem?_eq_some_iff.1 h).1).trans h
theorem hn_le {w : World} {o : Obj} {g C : Nat} (hC : C ≤ g) (h : w.heap[g]? = some o) : C ≤ g := hC
theorem ownS {w : World} {g : Nat} {z : Int} (C : Nat) (hC : C ≤ g) (h : w.heap[g]? = some (.cells #[.int .i64 z] 2 (0, 0))) : OwnI C w (.slice (some ⟨g, 0, none⟩) 1 1) [z] := own1 C hC h
def KX (G : Gr) (C : Nat) (wr : World) (seen front : List Wk) (i k : Nat) (nv : Value) (wx : World) : Prop := ∃ R, OwnK C wx nv R ∧ NW G seen front i k R ∧ (∀ g, nv.ownBlock = some g → wr.heap.size ≤ g) ∧ Nx wr wx
theorem KX.kept {G : Gr} {C : Nat} {wR w2 W w3 : World} {seen front R' : List Wk} {i k : Nat} {nv v3 : Value} (hT : NW G seen front i k R') (h3 : ∀ g, nv.ownBlock = some g → wR.heap.size ≤ g) (h4 : Nx wR w2) (hz : Nx w2 W) (hK : KE C W w3 nv v3 R') : KX G C wR seen front i k v3 w3 := by
  obtain ⟨q1, q2, q3⟩ := hK
  have hs : wR.heap.size ≤ W.heap.size := Nat.le_trans h4.size hz.size
  refine ⟨R', q1, hT, fun g e => ?_, Below.trans (h4.trans hz) (q3.below hs h3)⟩
  rcases q2 g e with h | h
  · exact h3 g h
  · omega
theorem KE.slice {C : Nat} {w w' : World} {v u : Value} {ws : List Wk} (h : KE C w w' v u ws) : ∃ a n c, u = .slice a n c := by
  obtain ⟨a, c, e⟩ := h.1.slice
  exact ⟨a, _, c, e⟩
theorem KX.nx {G : Gr} {C : Nat} {wr : World} {seen front : List Wk} {i k : Nat} {nv : Value} {wx : World} (h : KX G C wr seen front i k nv wx) : Nx wr wx := by
  obtain ⟨R, h1, h2, h3, h4⟩ := h
  exact h4
theorem KX.drew {G : Gr} {C : Nat} {wr : World} {seen front : List Wk} {i k : Nat} {nv : Value} {wx : World} (h : KX G C wr seen front i k nv wx) : KX G C wr seen front i k nv wx.drew := by
  obtain ⟨R, h1, h2, h3, h4⟩ := h
  exact ⟨R, h1.next (Nx.refl _).drew, h2, h3, h4.drew⟩
theorem KX.next {G : Gr} {C : Nat} {wr : World} {seen front : List Wk} {i k : Nat} {nv : Value} {wx wy : World} (h : KX G C wr seen front i k nv wx) (q : Nx wx wy) : KX G C wr seen front i k nv wy := by
  obtain ⟨R, h1, h2, h3, h4⟩ := h
  exact ⟨R, h1.next q, h2, h3, h4.trans q⟩

set_option maxHeartbeats 16000000 in
theorem short_l3 {G : Gr} {s0 : Nat} {w0 t : Int} {B C b r gb : Nat} {wA wR : World} {fa : Option Addr} {m fc : Nat} {sa : Option Addr} {sl sc : Nat} {seen front : List Wk} {best : Rt} {rc rk : Int} {oa : Option Addr} {on oc : Nat} {a0 a1 a2 a3 a4 a5 a6 : Option Addr} {m0 m1 m2 m3 m4 m5 m6 c0 c1 c2 c3 c4 c5 c6 : Nat} (HVG : Hid (VG G)) (HS : Hid (ST G s0 w0 t C b r wA wR (.slice fa m fc) (.slice sa sl sc) seen front best rc rk oa on oc)) (HH : Hid (HG B wR (.slice a0 m0 c0) (.slice a1 m1 c1) (.slice a2 m2 c2) (.slice a3 m3 c3) (.slice a4 m4 c4) (.slice a5 m5 c5) (.slice a6 m6 c6) G)) (HB : Hid (Blk wR gb #[.slice a0 m0 c0, .slice a1 m1 c1, .slice a2 m2 c2, .slice a3 m3 c3, .slice a4 m4 c4, .slice a5 m5 c5, .slice a6 m6 c6])) (HC : Hid (C ≤ wR.heap.size)) (HFE : Hid (∀ x ∈ front, x.E.length ≤ 10000 ∧ 0 ≤ x.c ∧ x.c ≤ 40000000000)) (i v : Nat) (HI : Hid (i < front.length)) (HV : Hid (v < G.eo.length)) (HKEY : Hid ((wkat front i).key = [(v : Int)])) (u0 u1 u2 u4 u5 u6 u7 u10 u11 u16 u17 u18 u19 u20 u21 u22 u23 u24 u25 u26 u27 u28 u29 u30 u31 u32 u33 u34 u35 u36 u37 u38 u39 u40 u41 u42 u43 u44 u45 u46 u47 u48 u49 u50 u51 u52 u53 u54 u55 u56 u57 u58 u59 u60 u61 u62 u63 u64 u65 u66 u67 u68 u69 u70 u71 u72 u73 u74 u75 u76 u77 u78 u79 u80 u81 u82 u83 u84 u85 u86 u87 u88 u89 u90 u91 u92 u93 u94 u95 u96 u97 u98 u99 u100 u101 u102 u103 u104 u105 u106 u107 u108 u109 u110 u111 u112 u113 u114 u115 u116 u117 u118 u119 u120 u121 u122 u123 u124 u125 u126 u127 u128 u129 u130 u131 u132 u133 u134 u135 u136 u137 u138 u139 u140 u141 u142 u143 u144 u145 u146 u147 u148 u149 u150 u151 u152 u153 u154 u155 u156 u157 u158 u159 u160 u161 u162 u163 u164 u165 : Value) (Q : Exit → Act → World → Prop)
    (hexit : ∀ (nv : Value) (k : Nat) (y16 y17 y18 y96 y97 y98 y99 y100 y101 y102 y103 y104 y105 y106 y107 y108 y109 y110 y111 y112 y113 y114 y115 y116 y117 y118 y119 y120 y121 y122 y123 y124 y125 y126 y127 y128 y129 y130 y131 y132 y133 y134 y135 y136 y137 y138 y139 y140 y141 y142 y143 y144 y145 y146 y147 y148 y149 y150 y151 y152 y153 y154 : Value) (wx : World), KX G C wR seen front i k nv wx → fst G (v + 1) ≤ k → Q (.exit 4) ⟨List.toArray (u0 :: u1 :: u2 :: .pointer (some ⟨gb, 0, none⟩) :: u4 :: u5 :: u6 :: u7 :: .slice fa m fc :: .slice sa sl sc :: u10 :: u11 :: nv :: .int .i64 (i : Int) :: .int .i64 (v : Int) :: .int .i64 (k : Int) :: y16 :: y17 :: y18 :: u19 :: u20 :: u21 :: u22 :: u23 :: u24 :: u25 :: u26 :: u27 :: u28 :: u29 :: u30 :: u31 :: u32 :: u33 :: u34 :: u35 :: u36 :: u37 :: u38 :: u39 :: u40 :: u41 :: u42 :: u43 :: u44 :: u45 :: u46 :: u47 :: u48 :: u49 :: u50 :: u51 :: u52 :: u53 :: u54 :: u55 :: u56 :: u57 :: u58 :: u59 :: u60 :: u61 :: u62 :: u63 :: u64 :: u65 :: u66 :: u67 :: u68 :: u69 :: u70 :: u71 :: u72 :: u73 :: u74 :: u75 :: u76 :: u77 :: u78 :: u79 :: u80 :: u81 :: u82 :: u83 :: u84 :: u85 :: u86 :: u87 :: u88 :: u89 :: u90 :: u91 :: u92 :: u93 :: u94 :: u95 :: y96 :: y97 :: y98 :: y99 :: y100 :: y101 :: y102 :: y103 :: y104 :: y105 :: y106 :: y107 :: y108 :: y109 :: y110 :: y111 :: y112 :: y113 :: y114 :: y115 :: y116 :: y117 :: y118 :: y119 :: y120 :: y121 :: y122 :: y123 :: y124 :: y125 :: y126 :: y127 :: y128 :: y129 :: y130 :: y131 :: y132 :: y133 :: y134 :: y135 :: y136 :: y137 :: y138 :: y139 :: y140 :: y141 :: y142 :: y143 :: y144 :: y145 :: y146 :: y147 :: y148 :: y149 :: y150 :: y151 :: y152 :: y153 :: y154 :: u155 :: u156 :: u157 :: u158 :: u159 :: u160 :: u161 :: u162 :: u163 :: u164 :: u165 :: []), []⟩ wx)
    (nv : Value) (k : Nat) (wz : World) (hk : k = fst G v) (h0 : KX G C wR seen front i k nv wz) :
    Code.wp Try.prog (Code.loop ((((Try.f5.body.map loopsOf).getD [])[2]?).getD .skip)) Q ⟨List.toArray (u0 :: u1 :: u2 :: .pointer (some ⟨gb, 0, none⟩) :: u4 :: u5 :: u6 :: u7 :: .slice fa m fc :: .slice sa sl sc :: u10 :: u11 :: nv :: .int .i64 (i : Int) :: .int .i64 (v : Int) :: .int .i64 (k : Int) :: u16 :: u17 :: u18 :: u19 :: u20 :: u21 :: u22 :: u23 :: u24 :: u25 :: u26 :: u27 :: u28 :: u29 :: u30 :: u31 :: u32 :: u33 :: u34 :: u35 :: u36 :: u37 :: u38 :: u39 :: u40 :: u41 :: u42 :: u43 :: u44 :: u45 :: u46 :: u47 :: u48 :: u49 :: u50 :: u51 :: u52 :: u53 :: u54 :: u55 :: u56 :: u57 :: u58 :: u59 :: u60 :: u61 :: u62 :: u63 :: u64 :: u65 :: u66 :: u67 :: u68 :: u69 :: u70 :: u71 :: u72 :: u73 :: u74 :: u75 :: u76 :: u77 :: u78 :: u79 :: u80 :: u81 :: u82 :: u83 :: u84 :: u85 :: u86 :: u87 :: u88 :: u89 :: u90 :: u91 :: u92 :: u93 :: u94 :: u95 :: u96 :: u97 :: u98 :: u99 :: u100 :: u101 :: u102 :: u103 :: u104 :: u105 :: u106 :: u107 :: u108 :: u109 :: u110 :: u111 :: u112 :: u113 :: u114 :: u115 :: u116 :: u117 :: u118 :: u119 :: u120 :: u121 :: u122 :: u123 :: u124 :: u125 :: u126 :: u127 :: u128 :: u129 :: u130 :: u131 :: u132 :: u133 :: u134 :: u135 :: u136 :: u137 :: u138 :: u139 :: u140 :: u141 :: u142 :: u143 :: u144 :: u145 :: u146 :: u147 :: u148 :: u149 :: u150 :: u151 :: u152 :: u153 :: u154 :: u155 :: u156 :: u157 :: u158 :: u159 :: u160 :: u161 :: u162 :: u163 :: u164 :: u165 :: []), []⟩ wz := by
  have HEX : Hid (∀ (nv : Value) (k : Nat) (y16 y17 y18 y96 y97 y98 y99 y100 y101 y102 y103 y104 y105 y106 y107 y108 y109 y110 y111 y112 y113 y114 y115 y116 y117 y118 y119 y120 y121 y122 y123 y124 y125 y126 y127 y128 y129 y130 y131 y132 y133 y134 y135 y136 y137 y138 y139 y140 y141 y142 y143 y144 y145 y146 y147 y148 y149 y150 y151 y152 y153 y154 : Value) (wx : World), KX G C wR seen front i k nv wx → fst G (v + 1) ≤ k → Q (.exit 4) ⟨List.toArray (u0 :: u1 :: u2 :: .pointer (some ⟨gb, 0, none⟩) :: u4 :: u5 :: u6 :: u7 :: .slice fa m fc :: .slice sa sl sc :: u10 :: u11 :: nv :: .int .i64 (i : Int) :: .int .i64 (v : Int) :: .int .i64 (k : Int) :: y16 :: y17 :: y18 :: u19 :: u20 :: u21 :: u22 :: u23 :: u24 :: u25 :: u26 :: u27 :: u28 :: u29 :: u30 :: u31 :: u32 :: u33 :: u34 :: u35 :: u36 :: u37 :: u38 :: u39 :: u40 :: u41 :: u42 :: u43 :: u44 :: u45 :: u46 :: u47 :: u48 :: u49 :: u50 :: u51 :: u52 :: u53 :: u54 :: u55 :: u56 :: u57 :: u58 :: u59 :: u60 :: u61 :: u62 :: u63 :: u64 :: u65 :: u66 :: u67 :: u68 :: u69 :: u70 :: u71 :: u72 :: u73 :: u74 :: u75 :: u76 :: u77 :: u78 :: u79 :: u80 :: u81 :: u82 :: u83 :: u84 :: u85 :: u86 :: u87 :: u88 :: u89 :: u90 :: u91 :: u92 :: u93 :: u94 :: u95 :: y96 :: y97 :: y98 :: y99 :: y100 :: y101 :: y102 :: y103 :: y104 :: y105 :: y106 :: y107 :: y108 :: y109 :: y110 :: y111 :: y112 :: y113 :: y114 :: y115 :: y116 :: y117 :: y118 :: y119 :: y120 :: y121 :: y122 :: y123 :: y124 :: y125 :: y126 :: y127 :: y128 :: y129 :: y130 :: y131 :: y132 :: y133 :: y134 :: y135 :: y136 :: y137 :: y138 :: y139 :: y140 :: y141 :: y142 :: y143 :: y144 :: y145 :: y146 :: y147 :: y148 :: y149 :: y150 :: y151 :: y152 :: y153 :: y154 :: u155 :: u156 :: u157 :: u158 :: u159 :: u160 :: u161 :: u162 :: u163 :: u164 :: u165 :: []), []⟩ wx) := hexit
  clear hexit
  have H0 : Hid (KX G C wR seen front i k nv wz) := h0
  have HKF : Hid (fst G v ≤ k ∧ k ≤ fst G (v + 1)) := by subst hk; exact ⟨Nat.le_refl _, fst_le HVG.out HV.out⟩
  clear h0 hk
  conv => arg 2; arg 1; whnf
  go_loopw [12, 15, 16, 17, 18] (fun n12 k15 _ _ _ wx => ∃ k : Nat, Hid (fst G v ≤ k ∧ k ≤ fst G (v + 1)) ∧ k15 = .int .i64 (k : Int) ∧ Hid (KX G C wR seen front i k n12 wx)) (fun _ k15 _ _ _ _ => fst G (v + 1) - (intOf k15).toNat)
  case atStart => exact ⟨k, HKF, rfl, H0⟩
  clear H0 HKF
  obtain ⟨k, HKF, rfl, HKX⟩ := hrel
  have HX : Hid (Nx wR wr) := by obtain ⟨_, _, _, _, h⟩ := HKX.out; exact h
  have HSx : Hid (ST G s0 w0 t C b r wA wr (.slice fa m fc) (.slice sa sl sc) seen front best rc rk oa on oc) := HS.out.next HX.out
  have HBx : Hid (Blk wr gb #[.slice a0 m0 c0, .slice a1 m1 c1, .slice a2 m2 c2, .slice a3 m3 c3, .slice a4 m4 c4, .slice a5 m5 c5, .slice a6 m6 c6]) := HB.out.next HX.out
  have HHx : Hid (HG B wr (.slice a0 m0 c0) (.slice a1 m1 c1) (.slice a2 m2 c2) (.slice a3 m3 c3) (.slice a4 m4 c4) (.slice a5 m5 c5) (.slice a6 m6 c6) G) := HH.out.next HX.out
  obtain ⟨e2, b2, o2, ha2, hc2⟩ := HHx.out.h2.row (by have := HVG.out.lf; omega)
  subst ha2
  have hvm2 : (v : Int) + 1 < m2 := by have := HVG.out.lf; have := HV.out; omega
  have hvv : v ≤ 6000 := by have := HVG.out.v; have := HV.out; omega
  have k2 : wr.cell? ⟨gb, 2, none⟩ = some (.slice (some ⟨b2, o2, none⟩) m2 c2) := HBx.out.cell (i := 2) rfl
  have x2 : wr.cell? ⟨b2, o2 + (v + 1), none⟩ = some (.int .i64 (fst G (v + 1) : Int)) := by
    rw [← (fst_eq HVG.out (show v + 1 ≤ G.eo.length by have := HV.out; omega)).1]
    exact hc2 (v + 1) (by have := HVG.out.lf; have := HV.out; omega)
  have HFT : Hid (fst G (v + 1) ≤ G.tt.length) := (fst_eq HVG.out (show v + 1 ≤ G.eo.length by have := HV.out; omega)).2
  have HTL : Hid (G.tt.length ≤ 40000) := HVG.out.t
  clear e2 hc2
  generalize hke : fst G (v + 1) = ke at *
  have HKE : Hid (fst G (v + 1) = ke) := hke
  clear hke
  have hke4 : ke ≤ 40000 := by have := HFT.out; have := HTL.out; omega
  have hkle : k ≤ ke := HKF.out.2
  by_cases hlt : k < ke
  case neg =>
    have d1 : decide ((k : Int) < (ke : Int)) = false := decide_eq_false (by omega)
    have HKL : Hid (ke ≤ k) := by unfold Hid; omega
    have d1' : decide (k < ke) = false := decide_eq_false hlt
    clear hkle
    go_wp2
    exact HEX.out _ _ _ _ _ _ _ _ _ _ _ _ _ _ _ _ _ _ _ _ _ _ _ _ _ _ _ _ _ _ _ _ _ _ _ _ _ _ _ _ _ _ _ _ _ _ _ _ _ _ _ _ _ _ _ _ _ _ _ _ _ _ _ _ _ HKX.out HKL.out
  have d1 : decide ((k : Int) < (ke : Int)) = true := decide_eq_true (by omega)
  have d1' : decide (k < ke) = true := decide_eq_true hlt
  have HKT : Hid (k < G.tt.length) := by have := HFT.out; unfold Hid; omega
  obtain ⟨e3, b3, o3, ha3, hc3⟩ := HHx.out.h3.row (by have := HKT.out; omega)
  obtain ⟨e4, b4, o4, ha4, hc4⟩ := HHx.out.h4.row (by have := HKT.out; have := HVG.out.lc; omega)
  obtain ⟨e0, b0, o0, ha0, hc0⟩ := HH.out.h0.row (by have := HV.out; omega)
  subst ha3 ha4 ha0
  have htt := HVG.out.tt k HKT.out
  have HCO : Hid (0 ≤ iat G.co k ∧ iat G.co k ≤ 3145728) := HVG.out.co k HKT.out
  obtain ⟨tv, hto⟩ : ∃ tv : Nat, iat G.tt k = (tv : Int) := ⟨(iat G.tt k).toNat, by omega⟩
  have HTO : Hid (iat G.tt k = (tv : Int)) := hto
  have hto0 : tv < G.eo.length := by omega
  have htm0 : (tv : Int) < m0 := by omega
  have hkm3 : (k : Int) < m3 := by have := HKT.out; omega
  have hkm4 : (k : Int) < m4 := by have := HKT.out; have := HVG.out.lc; omega
  have k3 : wr.cell? ⟨gb, 3, none⟩ = some (.slice (some ⟨b3, o3, none⟩) m3 c3) := HBx.out.cell (i := 3) rfl
  have k4 : wr.cell? ⟨gb, 4, none⟩ = some (.slice (some ⟨b4, o4, none⟩) m4 c4) := HBx.out.cell (i := 4) rfl
  have k0 : wr.cell? ⟨gb, 0, none⟩ = some (.slice (some ⟨b0, o0, none⟩) m0 c0) := HBx.out.cell (i := 0) rfl
  have x3 : wr.cell? ⟨b3, o3 + k, none⟩ = some (.int .i64 (tv : Int)) := by rw [← hto]; exact hc3 k HKT.out
  have x4 : wr.cell? ⟨b4, o4 + k, none⟩ = some (.int .i64 (iat G.co k)) := hc4 k (by have := HKT.out; have := HVG.out.lc; omega)
  have xR0 : wR.cell? ⟨b0, o0 + tv, none⟩ = some (.int .i64 (eoG G tv)) := hc0 tv hto0
  have x0 := cellq HX.out xR0
  obtain ⟨fg, ev, kv, hfg, _, _, f0R, f1R, f2R, heR, _, _⟩ := HS.out.of.at HI.out
  subst hfg
  have f0 := cellq HX.out f0R
  have f1 := cellq HX.out f1R
  have he := heR.next HX.out
  have HEV : Hid (OwnI C wr ev (wkat front i).E) := he
  have HFI : Hid ((wkat front i).E.length ≤ 10000 ∧ 0 ≤ (wkat front i).c ∧ (wkat front i).c ≤ 40000000000) := HFE.out _ (wkat_mem HI.out)
  have him : (i : Int) < m := by
    obtain ⟨_, _, e⟩ := HSx.out.of.slice
    simp only [Value.slice.injEq] at e
    have := HI.out
    omega
  obtain ⟨ea, ec, hes⟩ := he.slice
  generalize hel : (wkat front i).E.length = el at hes
  clear hel
  subst hes
  have FR0 : Hid (wR.cell? ⟨fg, i * 3, none⟩ = some (.slice ea el ec)) := f0R
  have KR0 : Hid (wR.cell? ⟨gb, 0, none⟩ = some (.slice (some ⟨b0, o0, none⟩) m0 c0)) := HB.out.cell (i := 0) rfl
  have XR0 : Hid (wR.cell? ⟨b0, o0 + tv, none⟩ = some (.int .i64 (eoG G tv))) := xR0
  clear e3 e4 e0 hc3 hc4 hc0 htt hto he f0R f1R f2R heR hkle xR0
  generalize hco : iat G.co k = co at *
  have HCK : Hid (iat G.co k = co) := hco
  generalize hfc : (wkat front i).c = fcc at *
  have HFC : Hid ((wkat front i).c = fcc) := hfc
  clear hco hfc
  have hco0 : 0 ≤ co ∧ co ≤ 3145728 := HCO.out
  have hfc0 : 0 ≤ fcc ∧ fcc ≤ 40000000000 := HFI.out.2
  obtain ⟨hco0, hco1⟩ := hco0
  obtain ⟨hfc0, hfc1⟩ := hfc0
  go_upto_region 21 with fail
  go_quiet (fail)
  have HXq : Hid (Nx wr ((wr.drewN nq).alloc (.cells #[.int .i64 (tv : Int)] 2))) := Nx.alloc (nx_drewN wr nq) _
  have HOq : Hid (OwnI wr.heap.size ((wr.drewN nq).alloc (.cells #[.int .i64 (tv : Int)] 2)) (.slice (some ⟨wr.heap.size, 0, none⟩) 1 1) [(tv : Int)]) := ownI_one wr.heap.size (wr.drewN nq) tv (Nat.le_refl _)
  go_wp2_with fail
  refine (l5Find_any C wr.heap.size _ _ seen [(tv : Int)] _ (by exact HSx.out.os.next HXq.out) (by exact HOq.out.held)).mono ?_
  rintro e w2 ⟨rfl, hx⟩
  have HX2 : Hid (Nx wr w2) := HXq.out.trans hx
  have F0 : Hid (wr.cell? ⟨fg, i * 3, none⟩ = some (.slice ea el ec)) := f0
  have K0 : Hid (wr.cell? ⟨gb, 0, none⟩ = some (.slice (some ⟨b0, o0, none⟩) m0 c0)) := k0
  have X0 : Hid (wr.cell? ⟨b0, o0 + tv, none⟩ = some (.int .i64 (eoG G tv))) := x0
  have HKF1 : Hid (fst G v ≤ k + 1 ∧ k + 1 ≤ ke) := ⟨by have := HKF.out.1; omega, by omega⟩
  have HTAKE : Hid ((∀ y ∈ seen, y.key = [(tv : Int)] → ¬ y.c ≤ fcc + co) → ∀ R, NW G seen front i k R → NW G seen front i (k + 1) (keepW R ⟨(wkat front i).E ++ [eoG G tv], fcc + co, [(tv : Int)]⟩)) := by
    intro hp R hR
    have := hR.take HI.out HV.out HKEY.out HKF.out.1 (by rw [HKE.out]; exact hlt) (by rw [HTO.out, HFC.out, HCK.out]; exact hp)
    rw [HTO.out, HFC.out, HCK.out, Int.toNat_natCast] at this
    exact this
  have HSKIP : Hid ((∃ y ∈ seen, y.key = [(tv : Int)] ∧ y.c ≤ fcc + co) → KX G C wR seen front i (k + 1) u12 w2) := by
    intro hp
    obtain ⟨R, q1, q2, q3, q4⟩ := HKX.out
    exact ⟨R, q1.next HX2.out, q2.skip HKEY.out (by rw [HTO.out, HFC.out, HCK.out]; exact hp), q3, q4.trans HX2.out⟩
  have HSX2 : Hid (OwnK C w2 (.slice sa sl sc) seen) := HSx.out.os.next HX2.out
  have HKPS : Hid (KP seen) := HSx.out.kp
  clear hx HXq HOq k0 k2 k3 k4 x0 x2 x3 x4 f0 f1 d1 d1'
  by_cases hneg : fnd seen [(tv : Int)] < 0
  · have HNO : Hid (∀ y ∈ seen, y.key = [(tv : Int)] → ¬ y.c ≤ fcc + co) := by
      intro y hy e
      have := fnd_no hneg
      rw [← Bool.not_eq_true, hasK_iff] at this
      exact absurd ⟨y, hy, e⟩ this
    have d2 : decide (0 ≤ fnd seen [(tv : Int)]) = false := decide_eq_false (by omega)
    generalize fnd seen [(tv : Int)] = fi at *
    have f0 := cellq HX2.out F0.out
    have k0 := cellq HX2.out K0.out
    have x0 := cellq HX2.out X0.out
    have ne0 := World.new_ne w2 _ f0
    have ne1 := World.new_ne w2 _ k0
    have ne2 := World.new_ne w2 _ x0
    go_upto_region 24 with fail
    obtain ⟨R, hR1, hR2, hR3, hR4⟩ := HKX.out
    have HR1 : Hid (OwnK C w2 u12 R) := hR1.next HX2.out
    have HRK : Hid (KP R) := hR2.1
    have HRL : Hid (R.length ≤ 1000000) := by have := kp_len hR2.1 (hR2.key HVG.out); have := HVG.out.v; unfold Hid; omega
    have HT : Hid (NW G seen front i (k + 1) (keepW R ⟨(wkat front i).E ++ [eoG G tv], fcc + co, [(tv : Int)]⟩)) := HTAKE.out HNO.out R hR2
    have HR3 : Hid (∀ g, u12.ownBlock = some g → wR.heap.size ≤ g) := hR3
    have HR4 : Hid (Nx wR w2) := hR4.trans HX2.out
    have HC2 : Hid (C ≤ w2.heap.size) := by have := HC.out; have := HR4.out.size; unfold Hid; omega
    have HEV2 : Hid (OwnI C w2 (.slice ea el ec) (wkat front i).E) := HEV.out.next HX2.out
    have HEL : Hid ((wkat front i).E.length ≤ 1048576) := by have := HFI.out.1; unfold Hid; omega
    clear hR1 hR2 hR3 hR4
    go_region_held3 (fun w' => w'.cell? ⟨fg, i * 3, none⟩ = some (.slice ea el ec) ∧ w'.cell? ⟨gb, 0, none⟩ = some (.slice (some ⟨b0, o0, none⟩) m0 c0) ∧ w'.cell? ⟨b0, o0 + tv, none⟩ = some (.int .i64 (eoG G tv))) (first | exact ⟨t3, t4, t5⟩ | exact ⟨cellq (by (repeat (first | with_reducible assumption | with_reducible exact Nx.refl _ | with_reducible refine Nx.drew ?_ | with_reducible refine Nx.alloc ?_ _))) f0, cellq (by (repeat (first | with_reducible assumption | with_reducible exact Nx.refl _ | with_reducible refine Nx.drew ?_ | with_reducible refine Nx.alloc ?_ _))) k0, cellq (by (repeat (first | with_reducible assumption | with_reducible exact Nx.refl _ | with_reducible refine Nx.drew ?_ | with_reducible refine Nx.alloc ?_ _))) x0⟩ | exact cellq (by (repeat (first | with_reducible assumption | with_reducible exact Nx.refl _ | with_reducible refine Nx.drew ?_ | with_reducible refine Nx.alloc ?_ _))) f0 | exact cellq (by (repeat (first | with_reducible assumption | with_reducible exact Nx.refl _ | with_reducible refine Nx.drew ?_ | with_reducible refine Nx.alloc ?_ _))) k0 | exact cellq (by (repeat (first | with_reducible assumption | with_reducible exact Nx.refl _ | with_reducible refine Nx.drew ?_ | with_reducible refine Nx.alloc ?_ _))) x0) (first | (go_at_call 19; refine (l2Plus_any C C _ _ (wkat front i).E [eoG G tv] _ (by exact (HEV2.out.next (by (repeat (first | with_reducible assumption | with_reducible exact Nx.refl _ | with_reducible refine Nx.drew ?_ | with_reducible refine Nx.alloc ?_ _)))).held) (by exact (ownS C (by (first | with_reducible exact HC2.out | with_reducible exact Nat.le_succ_of_le HC2.out | with_reducible exact Nat.le_trans HC2.out (Below.size hxw))) (by ((repeat (first | with_reducible refine hn_drew ?_ | with_reducible refine hn_base ?_ | with_reducible refine hn_alloc ?_)); (first | rfl | exact (size_alloc' _ _).symm)))).held) HEL.out (by simp)).mono ?_; rintro e w1 ⟨⟨u, rfl, hu⟩, hx⟩; have hxw : Nx w2 w1 := Nx.trans (by (repeat (first | with_reducible assumption | with_reducible exact Nx.refl _ | with_reducible refine Nx.drew ?_ | with_reducible refine Nx.alloc ?_ _))) hx; have t0 := cellq hxw f0; have t1 := cellq hxw k0; have t2 := cellq hxw x0; obtain ⟨ua, uc, hus⟩ := hu.slice; generalize List.length _ = un at hus; subst hus) | (go_at_call 18; refine (l5Keep_any C _ R ⟨(wkat front i).E ++ [eoG G tv], fcc + co, [(tv : Int)]⟩ _ _ _ _ _ _ _ (by exact HR1.out.next (by (repeat (first | with_reducible assumption | with_reducible exact Nx.refl _ | with_reducible refine Nx.drew ?_ | with_reducible refine Nx.alloc ?_ _)))) (by exact (hu.base (by exact Nat.le_trans HC2.out (Below.size (show Nx w2 _ by (repeat (first | with_reducible assumption | with_reducible exact Nx.refl _ | with_reducible refine Nx.drew ?_ | with_reducible refine Nx.alloc ?_ _)))))).next (by (repeat (first | with_reducible assumption | with_reducible exact Nx.refl _ | with_reducible refine Nx.drew ?_ | with_reducible refine Nx.alloc ?_ _)))) (by exact ownS C (by (first | with_reducible exact HC2.out | with_reducible exact Nat.le_succ_of_le HC2.out | with_reducible exact Nat.le_trans HC2.out (Below.size hxw))) (by ((repeat (first | with_reducible refine hn_nx hx ?_ | with_reducible refine hn_drew ?_ | with_reducible refine hn_base ?_ | with_reducible refine hn_alloc ?_)); (first | rfl | exact (size_alloc' _ _).symm)))) HRK.out HRL.out (by exact Nat.le_trans HC2.out (Below.size (show Nx w2 _ by (repeat (first | with_reducible assumption | with_reducible exact Nx.refl _ | with_reducible refine Nx.drew ?_ | with_reducible refine Nx.alloc ?_ _)))))).mono ?_; rintro e w3 ⟨v3, rfl, hKE⟩; have hfin : KX G C wR seen front i (k + 1) v3 w3 := KX.kept HT.out HR3.out HR4.out (by (repeat (first | with_reducible assumption | with_reducible exact Nx.refl _ | with_reducible refine Nx.drew ?_ | with_reducible refine Nx.alloc ?_ _))) hKE; obtain ⟨va, vn, vc, hvs⟩ := hKE.slice; subst hvs; clear hKE; have t3 := cellq hfin.nx FR0.out; have t4 := cellq hfin.nx KR0.out; have t5 := cellq hfin.nx XR0.out))
    all_goals go_wp2
    all_goals go_roundw
    all_goals first | exact ⟨k + 1, HKF1, by go_num, hfin⟩ | (simp [intOf]; omega)
  obtain ⟨q, hq, hfe, hqk⟩ := fnd_yes (show 0 ≤ fnd seen [(tv : Int)] by omega)
  obtain ⟨sg, se, sk, hsg, _, _, s0', s1, s2, _, _, _⟩ := HSX2.out.at hq
  subst hsg
  have hqs : (q : Int) < sl := by
    obtain ⟨_, _, e⟩ := HSX2.out.slice
    simp only [Value.slice.injEq] at e
    omega
  rw [hfe]
  have hq0 : (0 : Int) ≤ q := by omega
  have d2 : decide ((0 : Int) ≤ (q : Int)) = true := decide_eq_true hq0
  clear hneg hfe s0' s2
  by_cases hle : (wkat seen q).c ≤ fcc + co
  · have HF : Hid (KX G C wR seen front i (k + 1) u12 w2) := HSKIP.out ⟨_, wkat_mem hq, hqk, hle⟩
    have d3 : decide ((wkat seen q).c ≤ fcc + co) = true := decide_eq_true hle
    generalize (wkat seen q).c = cq at *
    go_wp2
    go_roundw
    case rel => exact ⟨k + 1, HKF1, by go_num, HF⟩
    case measure => simp [intOf]; omega
  · have HNO : Hid (∀ y ∈ seen, y.key = [(tv : Int)] → ¬ y.c ≤ fcc + co) := by
      intro y hy e
      have : y = wkat seen q := HKPS.out.ku y hy _ (wkat_mem hq) (e.trans hqk.symm)
      rw [this]
      exact hle
    have d3 : decide ((wkat seen q).c ≤ fcc + co) = false := decide_eq_false hle
    generalize (wkat seen q).c = cq at *
    have f0 := cellq HX2.out F0.out
    have k0 := cellq HX2.out K0.out
    have x0 := cellq HX2.out X0.out
    have ne0 := World.new_ne w2 _ f0
    have ne1 := World.new_ne w2 _ k0
    have ne2 := World.new_ne w2 _ x0
    go_upto_region 24 with fail
    obtain ⟨R, hR1, hR2, hR3, hR4⟩ := HKX.out
    have HR1 : Hid (OwnK C w2 u12 R) := hR1.next HX2.out
    have HRK : Hid (KP R) := hR2.1
    have HRL : Hid (R.length ≤ 1000000) := by have := kp_len hR2.1 (hR2.key HVG.out); have := HVG.out.v; unfold Hid; omega
    have HT : Hid (NW G seen front i (k + 1) (keepW R ⟨(wkat front i).E ++ [eoG G tv], fcc + co, [(tv : Int)]⟩)) := HTAKE.out HNO.out R hR2
    have HR3 : Hid (∀ g, u12.ownBlock = some g → wR.heap.size ≤ g) := hR3
    have HR4 : Hid (Nx wR w2) := hR4.trans HX2.out
    have HC2 : Hid (C ≤ w2.heap.size) := by have := HC.out; have := HR4.out.size; unfold Hid; omega
    have HEV2 : Hid (OwnI C w2 (.slice ea el ec) (wkat front i).E) := HEV.out.next HX2.out
    have HEL : Hid ((wkat front i).E.length ≤ 1048576) := by have := HFI.out.1; unfold Hid; omega
    clear hR1 hR2 hR3 hR4
    go_region_held3 (fun w' => w'.cell? ⟨fg, i * 3, none⟩ = some (.slice ea el ec) ∧ w'.cell? ⟨gb, 0, none⟩ = some (.slice (some ⟨b0, o0, none⟩) m0 c0) ∧ w'.cell? ⟨b0, o0 + tv, none⟩ = some (.int .i64 (eoG G tv))) (first | exact ⟨t3, t4, t5⟩ | exact ⟨cellq (by (repeat (first | with_reducible assumption | with_reducible exact Nx.refl _ | with_reducible refine Nx.drew ?_ | with_reducible refine Nx.alloc ?_ _))) f0, cellq (by (repeat (first | with_reducible assumption | with_reducible exact Nx.refl _ | with_reducible refine Nx.drew ?_ | with_reducible refine Nx.alloc ?_ _))) k0, cellq (by (repeat (first | with_reducible assumption | with_reducible exact Nx.refl _ | with_reducible refine Nx.drew ?_ | with_reducible refine Nx.alloc ?_ _))) x0⟩ | exact cellq (by (repeat (first | with_reducible assumption | with_reducible exact Nx.refl _ | with_reducible refine Nx.drew ?_ | with_reducible refine Nx.alloc ?_ _))) f0 | exact cellq (by (repeat (first | with_reducible assumption | with_reducible exact Nx.refl _ | with_reducible refine Nx.drew ?_ | with_reducible refine Nx.alloc ?_ _))) k0 | exact cellq (by (repeat (first | with_reducible assumption | with_reducible exact Nx.refl _ | with_reducible refine Nx.drew ?_ | with_reducible refine Nx.alloc ?_ _))) x0) (first | (go_at_call 19; refine (l2Plus_any C C _ _ (wkat front i).E [eoG G tv] _ (by exact (HEV2.out.next (by (repeat (first | with_reducible assumption | with_reducible exact Nx.refl _ | with_reducible refine Nx.drew ?_ | with_reducible refine Nx.alloc ?_ _)))).held) (by exact (ownS C (by (first | with_reducible exact HC2.out | with_reducible exact Nat.le_succ_of_le HC2.out | with_reducible exact Nat.le_trans HC2.out (Below.size hxw))) (by ((repeat (first | with_reducible refine hn_drew ?_ | with_reducible refine hn_base ?_ | with_reducible refine hn_alloc ?_)); (first | rfl | exact (size_alloc' _ _).symm)))).held) HEL.out (by simp)).mono ?_; rintro e w1 ⟨⟨u, rfl, hu⟩, hx⟩; have hxw : Nx w2 w1 := Nx.trans (by (repeat (first | with_reducible assumption | with_reducible exact Nx.refl _ | with_reducible refine Nx.drew ?_ | with_reducible refine Nx.alloc ?_ _))) hx; have t0 := cellq hxw f0; have t1 := cellq hxw k0; have t2 := cellq hxw x0; obtain ⟨ua, uc, hus⟩ := hu.slice; generalize List.length _ = un at hus; subst hus) | (go_at_call 18; refine (l5Keep_any C _ R ⟨(wkat front i).E ++ [eoG G tv], fcc + co, [(tv : Int)]⟩ _ _ _ _ _ _ _ (by exact HR1.out.next (by (repeat (first | with_reducible assumption | with_reducible exact Nx.refl _ | with_reducible refine Nx.drew ?_ | with_reducible refine Nx.alloc ?_ _)))) (by exact (hu.base (by exact Nat.le_trans HC2.out (Below.size (show Nx w2 _ by (repeat (first | with_reducible assumption | with_reducible exact Nx.refl _ | with_reducible refine Nx.drew ?_ | with_reducible refine Nx.alloc ?_ _)))))).next (by (repeat (first | with_reducible assumption | with_reducible exact Nx.refl _ | with_reducible refine Nx.drew ?_ | with_reducible refine Nx.alloc ?_ _)))) (by exact ownS C (by (first | with_reducible exact HC2.out | with_reducible exact Nat.le_succ_of_le HC2.out | with_reducible exact Nat.le_trans HC2.out (Below.size hxw))) (by ((repeat (first | with_reducible refine hn_nx hx ?_ | with_reducible refine hn_drew ?_ | with_reducible refine hn_base ?_ | with_reducible refine hn_alloc ?_)); (first | rfl | exact (size_alloc' _ _).symm)))) HRK.out HRL.out (by exact Nat.le_trans HC2.out (Below.size (show Nx w2 _ by (repeat (first | with_reducible assumption | with_reducible exact Nx.refl _ | with_reducible refine Nx.drew ?_ | with_reducible refine Nx.alloc ?_ _)))))).mono ?_; rintro e w3 ⟨v3, rfl, hKE⟩; have hfin : KX G C wR seen front i (k + 1) v3 w3 := KX.kept HT.out HR3.out HR4.out (by (repeat (first | with_reducible assumption | with_reducible exact Nx.refl _ | with_reducible refine Nx.drew ?_ | with_reducible refine Nx.alloc ?_ _))) hKE; obtain ⟨va, vn, vc, hvs⟩ := hKE.slice; subst hvs; clear hKE; have t3 := cellq hfin.nx FR0.out; have t4 := cellq hfin.nx KR0.out; have t5 := cellq hfin.nx XR0.out))
    all_goals go_wp2
    all_goals go_roundw
    all_goals first | exact ⟨k + 1, HKF1, by go_num, hfin⟩ | (simp [intOf]; omega)
end Go.Proofs.Yticooljejlkbfaa
