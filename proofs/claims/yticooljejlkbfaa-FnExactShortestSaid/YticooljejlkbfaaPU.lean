import Derived.Test.YticooljejlkbfaaPT
import Derived.Deep.RegionLaw
namespace Go.Proofs.Yticooljejlkbfaa
open Go.RowKit Go.Sort Go.Maps Go.Shelf
set_option linter.unusedVariables false
set_option maxRecDepth 1000000

/-- an own row grows, as one step of a region that draws; and where it lies -/
theorem step_append_at {P : Program} {ops : Array Oper} {o : Oper} {a : Act} {w : World} {K : Act → World → Prop} {Q : Exit → Act → World → Prop} {E : Prop}
    (hg : o.guard = none) (s x : Operand) (t : TypeId) (hop : o.op = Op.call { callee := Callee.builtin Builtin.append, args := #[s, x], argTypes := #[t, t] })
    (e : TypeId) (i : TypeInfo) (z : Value) (size bytes : Nat) (h1 : P.underlying t = some (.slice e)) (h2 : P.info? e = some i) (h3 : i.zero = some z) (h4 : i.size = size) (h5 : i.bytes = bytes) (h6 : z.cells.size = size) (h7 : 0 < size)
    (B : Nat) (v : Value) (n : Nat) (olds : List Value) (hs : a.eval s = v) (hown : w.ownsRow B e size v n olds)
    (ad : Addr) (m c : Nat) (news : List Value) (hx : a.eval x = .slice (some ad) m c) (hn : news.length = m * size) (hc : ∀ j u, news[j]? = some u → w.cell? (ad.add j) = some u) (h1c : ∀ u ∈ news, u.oneCell' = true)
    (b1 : n + m ≤ maxLen) (b2 : (n + m) * bytes ≤ 140737488355328) (hB : B ≤ w.heap.size)
    (hK : ∀ v' w', w'.ownsRow B e size v' (n + m) (olds ++ news) → w.grownBy w' v.ownBlock → (v'.ownBlock = v.ownBlock ∨ v'.ownBlock = some w.heap.size) → K (a.put o.dst v') w') :
    if Region.wanted o (yielded ops a.tmps) = true then Oper.wp P o a w K Q else E := by
  have hw : Region.wanted o (yielded ops a.tmps) = true := by simp [Region.wanted, hg]
  rw [if_pos hw]
  obtain ⟨v', w', hrun, r1, r2, _, r4⟩ := run_append_own_at (P := P) w B t o.type e i z size bytes h1 h2 h3 h4 h5 h6 h7 v n olds hown ad m c news hn hc h1c b1 b2 hB
  unfold Oper.wp
  simp [execOp, hop, resolve, invoke, builtin, hs, hx, hrun, Result.andThen]
  exact hK v' w' r1 r2 r4
/-- it goes on -/
def NQ (K : Act → World → Prop) : Exit → Act → World → Prop
  | .normal, a, w => K a w
  | _, _, _ => False
def rgnOf (k : Nat) : Code → List Code
  | .region id ops d => if id = k then [.region id ops d] else []
  | .rangeFunc f ps a b => rgnOf k a ++ rgnOf k b
  | .loop c => rgnOf k c
  | .seq a b => rgnOf k a ++ rgnOf k b
  | .block _ c => rgnOf k c
  | .scope c => rgnOf k c
  | .cond _ a b => rgnOf k a ++ rgnOf k b
  | _ => []

theorem SB.set10 {w : World} {p : Nat} {gv : List Value} {t : Int} {rb n q : Nat} {sv : Value} {b : Rk} (h : SB w p gv t rb n q sv b) (sv' : Value) : SB (w.setCell ⟨p, 10, none⟩ sv') p gv t rb n q sv' b := by
  obtain ⟨hl, hb⟩ := h
  refine ⟨hl, ?_⟩
  match gv, hl with
  | [a0, a1, a2, a3, a4, a5, a6], _ => simp [World.setCell, Array.getElem?_modify, hb]

theorem own_snoc9 {C : Nat} {w : World} {v7 : Value} {S : List Nat} {v : Nat} (h : w.ownsRow C 2 1 v7 ((ints S).length + 1) (icells (ints S) ++ [.int .i64 (v : Int)])) : OwnI C w v7 (ints (S ++ [v])) := by
  rw [← ints_app]
  exact OwnI.snoc h
theorem slice_nine {C : Nat} {w : World} {v : Value} {zs : List Int} (h : OwnI C w v zs) : ∃ a n c, v = .slice a n c := by
  obtain ⟨a, c, e⟩ := h.slice
  exact ⟨a, _, c, e⟩
theorem at_nine {W : World} {o : Obj} {v7 : Value} {s : Option Nat} (h : v7.ownBlock = s ∨ v7.ownBlock = some ((W.alloc o).drew).heap.size) : v7.ownBlock = s ∨ v7.ownBlock = some (W.heap.size + 1) := by
  rcases h with h | h
  · exact Or.inl h
  · right
    rw [h]
    exact congrArg some (size_alloc' W o)
theorem p_nine {W : World} {p bx : Nat} {sv v7 : Value} (hp : p < W.heap.size) (h : ∀ g, sv.ownBlock = some g → g ≠ p ∧ g ≠ bx) (ha : v7.ownBlock = sv.ownBlock ∨ v7.ownBlock = some (W.heap.size + 1)) {g : Nat} (e : v7.ownBlock = some g) : g ≠ p := by
  rcases ha with q | q
  · exact (h g (by rw [← q]; exact e)).1
  · rw [q] at e
    have := Option.some.inj e
    omega
theorem bx_nine {p bx : Nat} {sv : Value} (hbp : bx ≠ p) (h : ∀ g, sv.ownBlock = some g → g ≠ p ∧ g ≠ bx) : bx ∉ p :: sv.ownBlock.toList := by
  intro hm
  rcases List.mem_cons.1 hm with e | e
  · exact hbp e
  · exact (h bx (by simpa using e)).2 rfl

set_option maxHeartbeats 8000000 in
theorem spread_r9 (C : Nat) (W : World) (p rb n q : Nat) (gv : List Value) (t : Int) (b : Rk) (sv : Value) (S : List Nat) (v bx : Nat) (hx : W.cell? ⟨bx, 0, none⟩ = some (.pointer (some ⟨p, 0, none⟩))) (hs : SB W p gv t rb n q sv b) (hd : OwnI C W sv (ints S)) (hl : S.length ≤ 10000) (hC : C ≤ W.heap.size) (hpv : ∀ g, sv.ownBlock = some g → g ≠ p ∧ g ≠ bx) (hbp : bx ≠ p) (u0 u1 u3 u4 u5 u7 u8 u9 u10 u11 u12 u13 u14 u15 u16 u17 u18 u19 u20 u21 u22 u23 u24 u25 u26 u27 u28 u29 u30 u31 u32 u33 u34 u35 u36 u37 u38 u39 u40 u41 u42 u43 u44 u45 u46 u47 u48 u49 u50 u51 u52 u53 u54 u55 u56 u57 u58 u59 u60 u61 u62 u63 u64 u65 u66 u67 u68 u69 u70 u71 u72 u73 u74 u75 u76 u77 u78 u79 u80 u81 u82 : Value) (ds : List Deferred) (K : Act → World → Prop)
    (hexit : ∀ (y64 y65 y66 y67 y68 y69 y70 y71 y72 y73 : Value) (W' : World) (sv' : Value), OwnI C W' sv' (ints (S ++ [v])) → SB W' p gv t rb n q sv' b → (sv'.ownBlock = sv.ownBlock ∨ sv'.ownBlock = some (W.heap.size + 1)) → OnS (p :: sv.ownBlock.toList) W W' → K ⟨List.toArray (u0 :: u1 :: .pointer (some ⟨bx, 0, none⟩) :: u3 :: u4 :: u5 :: .int .i64 (v : Int) :: u7 :: u8 :: u9 :: u10 :: u11 :: u12 :: u13 :: u14 :: u15 :: u16 :: u17 :: u18 :: u19 :: u20 :: u21 :: u22 :: u23 :: u24 :: u25 :: u26 :: u27 :: u28 :: u29 :: u30 :: u31 :: u32 :: u33 :: u34 :: u35 :: u36 :: u37 :: u38 :: u39 :: u40 :: u41 :: u42 :: u43 :: u44 :: u45 :: u46 :: u47 :: u48 :: u49 :: u50 :: u51 :: u52 :: u53 :: u54 :: u55 :: u56 :: u57 :: u58 :: u59 :: u60 :: u61 :: u62 :: u63 :: y64 :: y65 :: y66 :: y67 :: y68 :: y69 :: y70 :: y71 :: y72 :: y73 :: u74 :: u75 :: u76 :: u77 :: u78 :: u79 :: u80 :: u81 :: u82 :: []), ds⟩ W') : Code.wp Try.prog ((((Try.f38.body.map (rgnOf 9)).getD [])[0]?).getD .skip) (NQ K) ⟨List.toArray (u0 :: u1 :: .pointer (some ⟨bx, 0, none⟩) :: u3 :: u4 :: u5 :: .int .i64 (v : Int) :: u7 :: u8 :: u9 :: u10 :: u11 :: u12 :: u13 :: u14 :: u15 :: u16 :: u17 :: u18 :: u19 :: u20 :: u21 :: u22 :: u23 :: u24 :: u25 :: u26 :: u27 :: u28 :: u29 :: u30 :: u31 :: u32 :: u33 :: u34 :: u35 :: u36 :: u37 :: u38 :: u39 :: u40 :: u41 :: u42 :: u43 :: u44 :: u45 :: u46 :: u47 :: u48 :: u49 :: u50 :: u51 :: u52 :: u53 :: u54 :: u55 :: u56 :: u57 :: u58 :: u59 :: u60 :: u61 :: u62 :: u63 :: u64 :: u65 :: u66 :: u67 :: u68 :: u69 :: u70 :: u71 :: u72 :: u73 :: u74 :: u75 :: u76 :: u77 :: u78 :: u79 :: u80 :: u81 :: u82 :: []), ds⟩ W := by
  obtain ⟨ii, hi, hz0, hz1, hz2⟩ := info_parts infoInt
  have HEX : Hid (∀ (y64 y65 y66 y67 y68 y69 y70 y71 y72 y73 : Value) (W' : World) (sv' : Value), OwnI C W' sv' (ints (S ++ [v])) → SB W' p gv t rb n q sv' b → (sv'.ownBlock = sv.ownBlock ∨ sv'.ownBlock = some (W.heap.size + 1)) → OnS (p :: sv.ownBlock.toList) W W' → K ⟨List.toArray (u0 :: u1 :: .pointer (some ⟨bx, 0, none⟩) :: u3 :: u4 :: u5 :: .int .i64 (v : Int) :: u7 :: u8 :: u9 :: u10 :: u11 :: u12 :: u13 :: u14 :: u15 :: u16 :: u17 :: u18 :: u19 :: u20 :: u21 :: u22 :: u23 :: u24 :: u25 :: u26 :: u27 :: u28 :: u29 :: u30 :: u31 :: u32 :: u33 :: u34 :: u35 :: u36 :: u37 :: u38 :: u39 :: u40 :: u41 :: u42 :: u43 :: u44 :: u45 :: u46 :: u47 :: u48 :: u49 :: u50 :: u51 :: u52 :: u53 :: u54 :: u55 :: u56 :: u57 :: u58 :: u59 :: u60 :: u61 :: u62 :: u63 :: y64 :: y65 :: y66 :: y67 :: y68 :: y69 :: y70 :: y71 :: y72 :: y73 :: u74 :: u75 :: u76 :: u77 :: u78 :: u79 :: u80 :: u81 :: u82 :: []), ds⟩ W') := hexit
  have HS : Hid (SB W p gv t rb n q sv b) := hs
  have HD : Hid (OwnI C W sv (ints S)) := hd
  have HPV : Hid (∀ g, sv.ownBlock = some g → g ≠ p ∧ g ≠ bx) := hpv
  have HC : Hid (C ≤ W.heap.size) := hC
  have k10 := hs.cell.2.2.2.1
  have hpl := hs.lt
  have hbl := cell_lt hx
  obtain ⟨av, cv, hvs⟩ := hd.slice
  rw [ints_len] at hvs
  generalize hn9 : S.length = n9 at *
  have HN9 : Hid (S.length = n9) := hn9
  subst hvs
  clear hexit hs hd hpv hn9
  conv => arg 2; whnf
  have k10' : ((W.alloc (.cells #[.int .i64 (v : Int)] 2)).drew).cell? ⟨p, 10, none⟩ = some (.slice av n9 cv) := cellq (box1 _ _) k10
  have hx' : ((W.alloc (.cells #[.int .i64 (v : Int)] 2)).drew).cell? ⟨bx, 0, none⟩ = some (.pointer (some ⟨p, 0, none⟩)) := cellq (box1 _ _) hx
  go_region_law (refine step_append_at rfl (.tmp 68) (.tmp 70) 22 rfl 2 ii (.int .i64 0) 1 8 Try.underlying22 hi hz0 hz1 hz2 rfl (by decide) C (.slice av n9 cv) _ _ (by simp [Act.eval]) (show ((W.alloc (.cells #[.int .i64 (v : Int)] 2)).drew).ownsRow _ _ _ _ _ _ from World.ownsRow.alloc HD.out _) ⟨W.heap.size, 0, none⟩ 1 1 [.int .i64 (v : Int)] (by simp [Act.eval]) rfl (fun j u hj => show ((W.alloc (.cells #[.int .i64 (v : Int)] 2)).drew).cell? _ = _ from new_cells W _ _ _ rfl j u hj) (by intro u hu; simp at hu; subst hu; rfl) (by rw [ints_len, HN9.out]; unfold maxLen; omega) (by rw [ints_len, HN9.out]; omega) (by show C ≤ (W.alloc (.cells #[.int .i64 (v : Int)] 2)).heap.size; rw [size_alloc']; have := HC.out; omega) ?_; intro v7 w7 hown hgrow hat; have HOW : Hid (OwnI C w7 v7 (ints (S ++ [v]))) := own_snoc9 hown; have HS7 : Hid (SB w7 p gv t rb n q (.slice av n9 cv) b) := HS.out.kept ((hgrow.block p (by show p < (W.alloc (.cells #[.int .i64 (v : Int)] 2)).heap.size; rw [size_alloc']; omega) (fun e => (HPV.out p e.symm).1 rfl)).trans (Below.heap_alloc W _ p hpl)); have HO7 : Hid (OnS (p :: (Value.slice av n9 cv).ownBlock.toList) W w7) := ((OnS.nx (box1 W _)).tr (OnS.nx (Nx.refl _).drew)).tr (OnS.grown hgrow (fun g e => List.mem_cons_of_mem _ (by simp [e]))); have HAT : Hid (v7.ownBlock = (Value.slice av n9 cv).ownBlock ∨ v7.ownBlock = some (W.heap.size + 1)) := at_nine hat; have k7 := HS7.out.cell.2.2.2.1; have z7 := HS7.out.fz 10; have x7 := HO7.out.cell (bx_nine hbp HPV.out) hx; obtain ⟨a7, n7, c7, hv7⟩ := slice_nine HOW.out; subst hv7; clear hown hgrow hat)
  all_goals exact HEX.out _ _ _ _ _ _ _ _ _ _ _ _ (HOW.out.kept (fun g e => Below.heap_setCell _ _ _ _ (p_nine hpl HPV.out HAT.out e))) (HS7.out.set10 _) HAT.out (HO7.out.tr (OnS.set _ _ (by simp) _ _))
end Go.Proofs.Yticooljejlkbfaa
