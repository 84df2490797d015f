import Derived.Test.YticooljejlkbfaaPU
namespace Go.Proofs.Yticooljejlkbfaa
open Go.RowKit Go.Sort Go.Maps Go.Shelf
set_option linter.unusedVariables false
set_option maxRecDepth 1000000

theorem SB.setBest {w : World} {p : Nat} {gv : List Value} {t : Int} {rb n q : Nat} {sv : Value} {b : Rk} (h : SB w p gv t rb n q sv b) (k1 k2 : Int) : SB ((w.setCell ⟨p, 11, none⟩ (.int .i64 k1)).setCell ⟨p, 12, none⟩ (.int .i64 k2)).drew p gv t rb n q sv (k1, k2) := by
  obtain ⟨hl, hb⟩ := h
  refine ⟨hl, ?_⟩
  match gv, hl with
  | [a0, a1, a2, a3, a4, a5, a6], _ => simp [World.drew, World.setCell, Array.getElem?_modify, hb]

set_option maxHeartbeats 8000000 in
theorem spread_r7 (W : World) (p rb n q : Nat) (gv : List Value) (t : Int) (b : Rk) (sv : Value) (K : Nat → Rk) (v bx : Nat) (hx : W.cell? ⟨bx, 0, none⟩ = some (.pointer (some ⟨p, 0, none⟩))) (hs : SB W p gv t rb n q sv b) (hk : RKM W rb n K) (hv : v < n) (hbp : bx ≠ p) (hrp : rb ≠ p) (u0 u1 u3 u4 u5 u7 u8 u9 u10 u11 u12 u13 u14 u15 u16 u17 u18 u19 u20 u21 u22 u23 u24 u25 u26 u27 u28 u29 u30 u31 u32 u33 u34 u35 u36 u37 u38 u39 u40 u41 u42 u43 u44 u45 u46 u47 u48 u49 u50 u51 u52 u53 u54 u55 u56 u57 u58 u59 u60 u61 u62 u63 u64 u65 u66 u67 u68 u69 u70 u71 u72 u73 u74 u75 u76 u77 u78 u79 u80 u81 u82 : Value) (ds : List Deferred) (Kq : Act → World → Prop)
    (hexit : ∀ (y54 y55 y56 y57 y58 y59 y60 y61 y62 y63 : Value) (W' : World), SB W' p gv t rb n q sv (K v) → OnS [p] W W' → Kq ⟨List.toArray (u0 :: u1 :: .pointer (some ⟨bx, 0, none⟩) :: u3 :: u4 :: u5 :: .int .i64 (v : Int) :: u7 :: u8 :: u9 :: u10 :: u11 :: u12 :: u13 :: u14 :: u15 :: u16 :: u17 :: u18 :: u19 :: u20 :: u21 :: u22 :: u23 :: u24 :: u25 :: u26 :: u27 :: u28 :: u29 :: u30 :: u31 :: u32 :: u33 :: u34 :: u35 :: u36 :: u37 :: u38 :: u39 :: u40 :: u41 :: u42 :: u43 :: u44 :: u45 :: u46 :: u47 :: u48 :: u49 :: u50 :: u51 :: u52 :: u53 :: y54 :: y55 :: y56 :: y57 :: y58 :: y59 :: y60 :: y61 :: y62 :: y63 :: u64 :: u65 :: u66 :: u67 :: u68 :: u69 :: u70 :: u71 :: u72 :: u73 :: u74 :: u75 :: u76 :: u77 :: u78 :: u79 :: u80 :: u81 :: u82 :: []), ds⟩ W') : Code.wp Try.prog ((((Try.f38.body.map (rgnOf 7)).getD [])[0]?).getD .skip) (NQ Kq) ⟨List.toArray (u0 :: u1 :: .pointer (some ⟨bx, 0, none⟩) :: u3 :: u4 :: u5 :: .int .i64 (v : Int) :: u7 :: u8 :: u9 :: u10 :: u11 :: u12 :: u13 :: u14 :: u15 :: u16 :: u17 :: u18 :: u19 :: u20 :: u21 :: u22 :: u23 :: u24 :: u25 :: u26 :: u27 :: u28 :: u29 :: u30 :: u31 :: u32 :: u33 :: u34 :: u35 :: u36 :: u37 :: u38 :: u39 :: u40 :: u41 :: u42 :: u43 :: u44 :: u45 :: u46 :: u47 :: u48 :: u49 :: u50 :: u51 :: u52 :: u53 :: u54 :: u55 :: u56 :: u57 :: u58 :: u59 :: u60 :: u61 :: u62 :: u63 :: u64 :: u65 :: u66 :: u67 :: u68 :: u69 :: u70 :: u71 :: u72 :: u73 :: u74 :: u75 :: u76 :: u77 :: u78 :: u79 :: u80 :: u81 :: u82 :: []), ds⟩ W := by
  have HEX : Hid (∀ (y54 y55 y56 y57 y58 y59 y60 y61 y62 y63 : Value) (W' : World), SB W' p gv t rb n q sv (K v) → OnS [p] W W' → Kq ⟨List.toArray (u0 :: u1 :: .pointer (some ⟨bx, 0, none⟩) :: u3 :: u4 :: u5 :: .int .i64 (v : Int) :: u7 :: u8 :: u9 :: u10 :: u11 :: u12 :: u13 :: u14 :: u15 :: u16 :: u17 :: u18 :: u19 :: u20 :: u21 :: u22 :: u23 :: u24 :: u25 :: u26 :: u27 :: u28 :: u29 :: u30 :: u31 :: u32 :: u33 :: u34 :: u35 :: u36 :: u37 :: u38 :: u39 :: u40 :: u41 :: u42 :: u43 :: u44 :: u45 :: u46 :: u47 :: u48 :: u49 :: u50 :: u51 :: u52 :: u53 :: y54 :: y55 :: y56 :: y57 :: y58 :: y59 :: y60 :: y61 :: y62 :: y63 :: u64 :: u65 :: u66 :: u67 :: u68 :: u69 :: u70 :: u71 :: u72 :: u73 :: u74 :: u75 :: u76 :: u77 :: u78 :: u79 :: u80 :: u81 :: u82 :: []), ds⟩ W') := hexit
  have HS : Hid (SB W p gv t rb n q sv b) := hs
  have p8 := hs.cell.2.1
  have p11 := hs.cell.2.2.2.2.1
  have p12 := hs.cell.2.2.2.2.2
  have z11 := hs.fz 11
  have z12 := hs.fz 12
  have r1 := hk.c1 hv
  have r2 := hk.c2 hv
  have hv0 : (v : Int) < n := by omega
  have HKV : Hid (K v = ((K v).1, (K v).2)) := rfl
  clear hexit hs hk
  generalize hk1 : (K v).1 = k1 at *
  generalize hk2 : (K v).2 = k2 at *
  clear hk1 hk2
  have HO : Hid (OnS [p] W ((W.setCell ⟨p, 11, none⟩ (.int .i64 k1)).setCell ⟨p, 12, none⟩ (.int .i64 k2)).drew) := ((OnS.set _ _ (by simp) _ _).tr (OnS.set _ _ (by simp) _ _)).tr (OnS.nx (Nx.refl _).drew)
  have HS2 : Hid (SB ((W.setCell ⟨p, 11, none⟩ (.int .i64 k1)).setCell ⟨p, 12, none⟩ (.int .i64 k2)).drew p gv t rb n q sv (k1, k2)) := HS.out.setBest k1 k2
  have t1 := HO.out.cell (by simpa using hbp) hx
  have t2 := HS2.out.cell.2.1
  have t3 := HO.out.cell (by simpa using hrp) r1
  have t4 := HO.out.cell (by simpa using hrp) r2
  conv => arg 2; whnf
  go_region_held3 (fun w' => w'.cell? ⟨bx, 0, none⟩ = some (.pointer (some ⟨p, 0, none⟩)) ∧ w'.cell? ⟨p, 8, none⟩ = some (.slice (some ⟨rb, 0, none⟩) n n) ∧ w'.cell? ⟨rb, v * 2, none⟩ = some (.int .i64 k1) ∧ w'.cell? ⟨rb, v * 2 + 1, none⟩ = some (.int .i64 k2)) (first | exact ⟨t1, t2, t3, t4⟩ | (go_keep; done)) (fail)
  all_goals exact HEX.out _ _ _ _ _ _ _ _ _ _ _ (by rw [HKV.out]; exact HS2.out) HO.out
end Go.Proofs.Yticooljejlkbfaa
