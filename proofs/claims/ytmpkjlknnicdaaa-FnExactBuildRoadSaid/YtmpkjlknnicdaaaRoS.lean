import Derived.Test.YtmpkjlknnicdaaaRoR
namespace Go
/-- an own row grows, as one step of a region that draws -/
theorem step_append_mine {P : Program} {ops : Array Oper} {o : Oper} {a : Act} {w : World} {K : Act → World → Prop} {Q : Exit → Act → World → Prop} {E : Prop}
    (hg : o.guard = none) (s x : Operand) (t : TypeId) (hop : o.op = Op.call { callee := Callee.builtin Builtin.append, args := #[s, x], argTypes := #[t, t] })
    (e : TypeId) (i : TypeInfo) (z : Value) (size bytes : Nat) (h1 : P.underlying t = some (.slice e)) (h2 : P.info? e = some i) (h3 : i.zero = some z) (h4 : i.size = size) (h5 : i.bytes = bytes) (h6 : z.cells.size = size) (h7 : 0 < size)
    (B : Nat) (v : Value) (n : Nat) (olds : List Value) (hs : a.eval s = v) (hown : w.ownsRow B e size v n olds)
    (ad : Addr) (m c : Nat) (news : List Value) (hx : a.eval x = .slice (some ad) m c) (hn : news.length = m * size) (hc : ∀ j u, news[j]? = some u → w.cell? (ad.add j) = some u) (h1c : ∀ u ∈ news, u.oneCell' = true)
    (b1 : n + m ≤ maxLen) (b2 : (n + m) * bytes ≤ 140737488355328) (hB : B ≤ w.heap.size)
    (hK : ∀ v' w', w'.ownsRow B e size v' (n + m) (olds ++ news) → w.grownBy w' v.ownBlock → K (a.put o.dst v') w') :
    if Region.wanted o (yielded ops a.tmps) = true then Oper.wp P o a w K Q else E := by
  have hw : Region.wanted o (yielded ops a.tmps) = true := by simp [Region.wanted, hg]
  rw [if_pos hw]
  obtain ⟨v', w', hrun, r1, r2, _⟩ := run_append_own (P := P) w B t o.type e i z size bytes h1 h2 h3 h4 h5 h6 h7 v n olds hown ad m c news hn hc h1c b1 b2 hB
  unfold Oper.wp
  simp [execOp, hop, resolve, invoke, builtin, hs, hx, hrun, Result.andThen]
  exact hK v' w' r1 r2
end Go
namespace Go.Proofs.Ytmpkjlknnicdaaa
open Go.RowKit
set_option linter.unusedVariables false
set_option maxRecDepth 100000

def tkN (zs : List Int) (k : Nat) : List Int := zs.take k
theorem tkN_zero (zs : List Int) : tkN zs 0 = [] := rfl
theorem tkN_succ {zs : List Int} {k : Nat} (h : k < zs.length) : tkN zs (k + 1) = tkN zs k ++ [iat zs k] := by
  unfold tkN
  rw [List.take_succ_eq_append_getElem h, iat_eq h]
theorem tkN_len {zs : List Int} {k : Nat} (h : k ≤ zs.length) : (tkN zs k).length = k := by simp [tkN, h]
theorem tkN_all (zs : List Int) : tkN zs zs.length = zs := by simp [tkN]
def cellAt (x : Eg) (j : Nat) : Value := ((cells7 x)[j]?).getD (.bool false)
/-- the edges while the twins are told: e the edge at hand, f how far -/
def twX (E : List Eg) (m e f i : Nat) : Eg := if i < e then setTw (eat E i) (twTo E i m) else if i = e then setTw (eat E i) (twTo E i f) else eat E i
def RX (w : World) (g n : Nat) (X : Nat → Eg) : Prop := RE w g n (fun i j => cellAt (X i) j)
theorem RX.tw {w : World} {g n : Nat} {E : List Eg} {m e f : Nat} (h : RX w g n (twX E m e f)) (he : e < n) (hm : mt (eat E e) (eat E f) = true) : RX (w.setCell ⟨g, e * 7 + 6, none⟩ (.int .i64 (f : Int))) g n (twX E m e (f + 1)) := by
  refine RE.congr (RE.set h he (j := 6) (by omega) _) fun i j _ hj => ?_
  by_cases c : i = e ∧ j = 6
  · obtain ⟨rfl, rfl⟩ := c
    rw [if_pos ⟨rfl, rfl⟩]
    simp [twX, twTo, hm, cellAt, cells7, setTw]
  · rw [if_neg c]
    by_cases ei : i = e
    · subst ei
      have hj6 : j ≠ 6 := fun h => c ⟨rfl, h⟩
      rcases (show j = 0 ∨ j = 1 ∨ j = 2 ∨ j = 3 ∨ j = 4 ∨ j = 5 by omega) with rfl | rfl | rfl | rfl | rfl | rfl <;> simp [twX, cellAt, cells7, setTw]
    · simp [twX, ei]
theorem RX.no {w : World} {g n : Nat} {E : List Eg} {m e f : Nat} (h : RX w g n (twX E m e f)) (hm : mt (eat E e) (eat E f) = false) : RX w g n (twX E m e (f + 1)) :=
  RE.congr h fun i j _ hj => by
    by_cases ei : i = e
    · subst ei
      simp [twX, twTo, hm]
    · simp [twX, ei]
theorem RX.up {w : World} {g n : Nat} {E : List Eg} {m e : Nat} (h : RX w g n (twX E m e m)) (h0 : ∀ i, i < n → (eat E i).twin = -1) : RX w g n (twX E m (e + 1) 0) :=
  RE.congr h fun i j hi hj => by
    have h1 := h0 i hi
    by_cases e1 : i < e
    · simp [twX, e1, show i < e + 1 by omega]
    · by_cases e2 : i = e
      · subst e2; simp [twX]
      · by_cases e3 : i = e + 1
        · subst e3
          have : setTw (eat E (e + 1)) (-1) = eat E (e + 1) := by unfold setTw; rw [← h1]
          simp [twX, twTo, this, e1]
        · simp [twX, e1, e2, e3, show ¬ i < e + 1 by omega]
theorem Only.nx {o : Option Nat} {a w w' : World} (h : Only o a w) (k : Nx w w') : Only o a w' :=
  ⟨k.os.trans h.os, k.tape.trans h.tape, k.output.trans h.output, Nat.le_trans h.size k.size, fun b hb hn => (k.block b (Nat.lt_of_lt_of_le hb h.size)).trans (h.block b hb hn)⟩
theorem RE.next {w w' : World} {g n : Nat} {V : Nat → Nat → Value} (h : RE w g n V) (k : Nx w w') : RE w' g n V := by
  obtain ⟨c, hb, r⟩ := h
  exact ⟨c, (k.block g (Array.getElem?_eq_some_iff.1 hb).1).trans hb, r⟩
theorem RE.only {W w : World} {g n b : Nat} {V : Nat → Nat → Value} (h : RE W g n V) (k : Only (some b) W w) (hb : b < g) : RE w g n V := by
  obtain ⟨c, hg, r⟩ := h
  exact ⟨c, (k.block g (Array.getElem?_eq_some_iff.1 hg).1 (fun e => by have := Option.some.inj e; omega)).trans hg, r⟩
theorem RE.setOther {w : World} {g n : Nat} {V : Nat → Nat → Value} (h : RE w g n V) {a : Addr} (ha : g ≠ a.block) (v : Value) : RE (w.setCell a v) g n V := by
  obtain ⟨c, hg, r⟩ := h
  exact ⟨c, (Below.heap_setCell _ _ _ _ ha).trans hg, r⟩
theorem edges_of {B : Nat} {w : World} {a : Option Addr} {n c : Nat} {es : List Eg} (hl : es.length = n) (hm : n ≤ maxLen) (h : 0 < n → ∃ g, a = some ⟨g, 0, none⟩ ∧ B ≤ g ∧ RX w g n (fun i => eat es i)) : HEdges B w (.slice a n c) es := by
  subst hl
  refine ⟨_, _, rfl, hm, fun h0 => ?_⟩
  obtain ⟨g, e, hB, hr⟩ := h h0
  have hlt : g < w.heap.size := by
    obtain ⟨cc, hb, _⟩ := hr
    exact (Array.getElem?_eq_some_iff.1 hb).1
  refine ⟨g, 0, e, hB, hlt, fun i hi => ?_⟩
  have q := fun j hj => RE.cell hr hi (j := j) hj
  show HEdge w g (0 + i * 7) (eat es i)
  rw [Nat.zero_add]
  exact ⟨q 0 (by omega), q 1 (by omega), q 2 (by omega), q 3 (by omega), q 4 (by omega), q 5 (by omega), q 6 (by omega)⟩
theorem E0_twin {N : Nt} {i : Nat} (h : i < mN N) : (eat (E0 N) i).twin = -1 := by
  obtain ⟨a, b, q, ha, hb, hq, he⟩ := lay_of N.ways.length h
  rw [he, (at_place ha hb hq).1]
  split <;> rfl
theorem twX_way (E : List Eg) (m e f i : Nat) : cellAt (twX E m e f i) 3 = .int .i64 (eat E i).way := by unfold twX; split <;> (try split) <;> rfl
theorem twX_seg (E : List Eg) (m e f i : Nat) : cellAt (twX E m e f i) 4 = .int .i64 (eat E i).seg := by unfold twX; split <;> (try split) <;> rfl
theorem twX_back (E : List Eg) (m e f i : Nat) : cellAt (twX E m e f i) 5 = .bool (eat E i).back := by unfold twX; split <;> (try split) <;> rfl
theorem specValid_same (N : Nt) : specValid N = implValid N := (same_valid N).symm

set_option maxHeartbeats 8000000 in
theorem specRoad_any (B0 : Nat) (v0 v1 v2 v3 : Value) (N : Nt) (w : World) (h0 : HNet B0 w v0 v1 v2 v3 N) (hs : wsum N.ways N.ways.length ≤ 1048576) :
    Calls Try.prog 10 #[.agg #[v0, v1, v2, v3, .int .i64 N.uturn]] w fun e w' => (∃ r0 r1 r2 r3, e = .returned (.agg #[r0, r1, r2, r3]) ∧ HRoad w.heap.size w' r0 r1 r2 r3 (roadOf N)) ∧ Nx w w' := by
  obtain ⟨ii, hi, hz0, hz1, hz2⟩ := info_parts infoInt
  have HS : Hid (wsum N.ways N.ways.length ≤ 1048576) := hs
  have HI : Hid (HNet B0 w v0 v1 v2 v3 N) := h0
  obtain ⟨a0, c0, e0, hn0, hk0⟩ := h0.1
  subst e0
  clear hs h0
  go_enter Try.func10, Try.ntmps10
  go_wp2_with fail
  refine (specValid_any B0 _ _ _ _ N _ (by exact HI.out.next (box2 _ _ _)) HS.out).mono ?_
  rintro e w1 ⟨rfl, hx⟩
  rw [← same_valid]
  have BA : Blk w1 w.heap.size #[.slice a0 N.nodes.length c0, v1, v2, v3, .int .i64 N.uturn] := ((Blk.new w _ 34 _ rfl).alloc _).next hx
  have BR : Blk w1 (w.heap.size + 1) #[.slice none 0 0, .slice none 0 0, .slice none 0 0, .slice none 0 0] := (Blk.new _ _ 40 _ (by simp)).next hx
  have HX1 : Hid (Nx w w1) := (box2 _ _ _).trans hx
  clear hx
  have rz0 := BR.cell (i := 0) rfl
  have rz1 := BR.cell (i := 1) rfl
  have rz2 := BR.cell (i := 2) rfl
  have rz3 := BR.cell (i := 3) rfl
  have rf0 := BR.frozen 0
  have rf1 := BR.frozen 1
  have rf2 := BR.frozen 2
  have rf3 := BR.frozen 3
  cases hv : implValid N
  case false =>
    go_wp2
    have BR' := (((BR.set 0 (.slice none 0 0)).set 1 (.slice none 0 0)).set 2 (.slice none 0 0)).set 3 (.slice none 0 0)
    have q0 := BR'.cell (i := 0) rfl
    have q1 := BR'.cell (i := 1) rfl
    have q2 := BR'.cell (i := 2) rfl
    have q3 := BR'.cell (i := 3) rfl
    refine bodyPost_ret (v := .agg #[.slice none 0 0, .slice none 0 0, .slice none 0 0, .slice none 0 0]) (by simp [results, Try.results10, go_sem, q0, q1, q2, q3]) rfl ⟨⟨_, _, _, _, rfl, RoadOwn.held (Or.inl ⟨rfl, rfl, rfl, rfl, by simp [roadOf, hv]⟩)⟩, ?_⟩
    exact Below.setCell (Below.setCell (Below.setCell (Below.setCell HX1.out (by simp) _) (by simp) _) (by simp) _) (by simp) _
  have HV : Hid (implValid N = true) := hv
  have HR : Hid (RoadIn N) := road_in hv
  clear rz0 rz1 rz2 rz3 rf0 rf1 rf2 rf3
  have hnl : N.nodes.length ≤ 2000 := HR.out.c0
  generalize hm0 : N.nodes.length = m0 at *
  have HM0 : Hid (N.nodes.length = m0) := hm0
  clear hm0
  have k0 := BA.cell (i := 0) rfl
  have hzA := BA.lt
  go_wp2
  go_loopw [4] (fun i wr => ∃ k : Nat, k ≤ m0 ∧ i = .int .i64 k ∧ Hid (∃ v, Blk wr w1.heap.size #[v, .slice none 0 0, .slice none 0 0, .slice none 0 0] ∧ OwnI (w1.heap.size + 1) wr v (tkN N.nodes k)) ∧ Hid (Nx w1 wr)) (fun i _ => m0 - (intOf i).toNat)
  case atStart => exact ⟨0, Nat.zero_le _, rfl, ⟨.slice none 0 0, Blk.new _ _ _ _ rfl, ⟨rfl, Or.inl ⟨rfl, rfl⟩⟩⟩, box1 _ _⟩
  obtain ⟨k, hkn, rfl, HO, HN⟩ := hrel
  clear k0
  by_cases hlt : k < m0
  · obtain ⟨b, off, rfl, hB, hb, hc⟩ := hk0 (by omega)
    have c1' := cell_next (HX1.out.trans HN.out) hb (hc k hlt)
    obtain ⟨v, BRr, ho⟩ := HO.out
    have hlt' : (k : Int) < m0 := by omega
    have BAr := BA.next HN.out
    have n0 := BAr.cell (i := 0) rfl
    have hsA := BAr.lt
    have g0 := BRr.cell (i := 0) rfl
    have g1 := BRr.frozen 0
    have hsR := BRr.lt
    have hlk : (tkN N.nodes k).length = k := tkN_len (by rw [HM0.out]; omega)
    have HLK : Hid ((tkN N.nodes k).length = k) := hlk
    obtain ⟨av, cv, hvs⟩ := ho.slice
    rw [hlk] at hvs
    subst hvs
    have HO1 : Hid (OwnI (w1.heap.size + 1) wr (.slice av k cv) (tkN N.nodes k)) := ho
    have HBR : Hid (Blk wr w1.heap.size #[.slice av k cv, .slice none 0 0, .slice none 0 0, .slice none 0 0]) := BRr
    have hob : some w1.heap.size ≠ (Value.slice av k cv).ownBlock := fun e => by have := (own_lt ho _ e.symm).1; omega
    have HOB : Hid (some w1.heap.size ≠ (Value.slice av k cv).ownBlock) := hob
    clear hc hk0 ho BRr hob hlk HO BAr
    have HTS : Hid (tkN N.nodes (k + 1) = tkN N.nodes k ++ [iat N.nodes k]) := tkN_succ (by rw [HM0.out]; exact hlt)
    go_wp2
    go_region_law (refine step_append_mine rfl (.tmp 22) (.tmp 28) 22 rfl 2 ii (.int .i64 0) 1 8 Try.underlying22 hi hz0 hz1 hz2 rfl (by decide) (w1.heap.size + 1) (.slice av k cv) (tkN N.nodes k).length (icells (tkN N.nodes k)) (by simp [Act.eval]) (World.ownsRow.alloc (show wr.drew.ownsRow _ _ _ _ _ _ from HO1.out) _) ⟨wr.heap.size, 0, none⟩ 1 1 [.int .i64 (iat N.nodes k)] (by simp [Act.eval]) rfl (fun j u hj => new_cells wr.drew _ _ _ rfl j u hj) (by intro u hu; simp at hu; subst hu; rfl) (by rw [HLK.out]; unfold maxLen; omega) (by rw [HLK.out]; omega) (by simp; omega) ?_; intro v' w' hown hgrow; have HV : OwnI (w1.heap.size + 1) w' v' (tkN N.nodes (k + 1)) := (by rw [HTS.out]; exact OwnI.snoc hown); have BR7 := Blk.grown (Blk.alloc (Blk.drew HBR.out) _) hgrow HOB.out; have h0' := BR7.cell (i := 0) rfl; have h1' := BR7.frozen 0; obtain ⟨a7, c7, hv7⟩ := HV.slice; subst hv7)
    all_goals go_wp2
    all_goals exact ⟨⟨k + 1, by omega, by go_num, ⟨_, (by exact BR7.set 0 _), own_store HV (Nat.lt_succ_self _) 0 _⟩, Below.setCell (Below.grown ((Nx.drew HN.out).alloc _) hgrow (by simp; omega) (fun g hg => by have := (own_lt HO1.out g hg).1; omega)) (Nat.le_refl _) _⟩, by simp [intOf]; omega⟩
  have ek : m0 = k := by omega
  subst ek
  obtain ⟨v, BRr, ho⟩ := HO.out
  rw [show tkN N.nodes m0 = N.nodes by rw [← HM0.out]; exact tkN_all _] at ho
  have BAr := BA.next HN.out
  have k0 := BAr.cell (i := 0) rfl
  have k1 := BAr.cell (i := 1) rfl
  have k2 := BAr.cell (i := 2) rfl
  have k3 := BAr.cell (i := 3) rfl
  have k4 := BAr.cell (i := 4) rfl
  have HXr : Hid (Nx w wr) := HX1.out.trans HN.out
  obtain ⟨av, cv, hvs⟩ := ho.slice
  rw [HM0.out] at hvs
  subst hvs
  have HON : Hid (OwnI (w1.heap.size + 1) wr (.slice av m0 cv) N.nodes) := ho
  have HNB : Hid (∀ g, (Value.slice av m0 cv).ownBlock = some g → g < wr.heap.size) := fun g hg => (own_lt ho g hg).2
  have HBR : Hid (Blk wr w1.heap.size #[.slice av m0 cv, .slice none 0 0, .slice none 0 0, .slice none 0 0]) := BRr
  clear ho BRr HO hk0 hkn hlt
  go_wp2_with fail
  refine (l2Edges_any B0 _ _ _ _ N _ (by exact HI.out.next HXr.out) HV.out).mono ?_
  rintro e w2 ⟨⟨ve, rfl, he⟩, hx⟩
  have HE : Hid (OwnE wr.heap.size w2 ve (E0 N)) := he
  have BA2 := BAr.next hx
  have BR2 := HBR.out.next hx
  have HX2 : Hid (Nx w w2) := HXr.out.trans hx
  have HNr2 : Hid (Nx w1 w2) := HN.out.trans hx
  have HON2 : Hid (OwnI (w1.heap.size + 1) w2 (.slice av m0 cv) N.nodes) := HON.out.next hx
  have HZr : Hid (w1.heap.size < wr.heap.size) := HBR.out.lt
  obtain ⟨ae, ce, hve, _⟩ := he.slice
  subst hve
  generalize hml : (E0 N).length = m at *
  have HMM : Hid (mN N = m) := by unfold Hid; rw [← E0_len]; exact hml
  clear hml
  clear he hx BAr HBR HON k0 k1 k2 k3 k4
  have g1 := BR2.cell (i := 1) rfl
  have g2 := BR2.frozen 1
  have hsR := BR2.lt
  have HBR' : Hid (Blk (w2.setCell ⟨w1.heap.size, 1, none⟩ (.slice ae m ce)) w1.heap.size #[.slice av m0 cv, .slice ae m ce, .slice none 0 0, .slice none 0 0]) := BR2.set 1 _
  have HE' : Hid (OwnE wr.heap.size (w2.setCell ⟨w1.heap.size, 1, none⟩ (.slice ae m ce)) (.slice ae m ce) (E0 N)) := own_store HE.out HZr.out 1 _
  have HON' : Hid (OwnI (w1.heap.size + 1) (w2.setCell ⟨w1.heap.size, 1, none⟩ (.slice ae m ce)) (.slice av m0 cv) N.nodes) := own_store HON2.out (Nat.lt_succ_self _) 1 _
  have HN2 : Hid (Nx w1 (w2.setCell ⟨w1.heap.size, 1, none⟩ (.slice ae m ce))) := Below.setCell HNr2.out (Nat.le_refl _) _
  clear BR2 HE HON2 HNr2 BA2
  go_wp2
  have hm4 : m ≤ 4000 := by rw [← HMM.out]; unfold mN; rw [st_ed]; exact HR.out.ed
  have HT0 : Hid (∀ i, i < m → (eat (E0 N) i).twin = -1) := fun i hi => E0_twin (by rw [HMM.out]; exact hi)
  have HOB : Hid (∀ g, (Value.slice ae (m) ce).ownBlock = some g → wr.heap.size ≤ g) := fun g hg => (own_lt HE'.out g hg).1
  have HSE : Hid (0 < m → ∃ g, ae = some ⟨g, 0, none⟩ ∧ RX (w2.setCell ⟨w1.heap.size, 1, none⟩ (.slice ae (m) ce)) g (m) (twX (E0 N) (m) 0 0)) := fun h0 => by
    have hse := HE'.out.se
    rw [E0_len, HMM.out] at hse
    obtain ⟨a', c', e', hk⟩ := hse
    simp only [Value.slice.injEq, true_and] at e'
    obtain ⟨rfl, rfl⟩ := e'
    obtain ⟨g, e1, hr⟩ := hk h0
    refine ⟨g, e1, RE.congr hr fun i j hi hj => ?_⟩
    have h1 := HT0.out i hi
    show cellAt (eat (E0 N) i) j = cellAt (twX (E0 N) (m) 0 0 i) j
    by_cases e2 : i = 0
    · subst e2
      have : setTw (eat (E0 N) 0) (-1) = eat (E0 N) 0 := by unfold setTw; rw [← h1]
      simp [twX, twTo, this]
    · simp [twX, e2]
  generalize hEN : E0 N = EN at *
  have HEN : Hid (E0 N = EN) := hEN
  clear hEN
  generalize hWW : w2.setCell ⟨w1.heap.size, 1, none⟩ (.slice ae m ce) = W2 at *
  have HWW : Hid (w2.setCell ⟨w1.heap.size, 1, none⟩ (.slice ae m ce) = W2) := hWW
  clear hWW
  have hRB : ∀ X, Only (Value.slice ae m ce).ownBlock W2 X → Blk X w1.heap.size #[.slice av m0 cv, .slice ae m ce, .slice none 0 0, .slice none 0 0] := fun X hX => by
    have hl := HBR'.out.lt
    obtain ⟨t, hb⟩ := HBR'.out
    exact ⟨t, (hX.block _ hl (fun e => by have := HOB.out _ e.symm; have := HZr.out; omega)).trans hb⟩
  have HRB : Hid (∀ X, Only (Value.slice ae m ce).ownBlock W2 X → Blk X w1.heap.size #[.slice av m0 cv, .slice ae m ce, .slice none 0 0, .slice none 0 0]) := hRB
  clear hRB g1 g2 hsR hzA
  go_loopw [5, 6] (fun i p6 wq => ∃ e : Nat, e ≤ m ∧ i = .int .i64 e ∧ Hid (0 < m → ∃ g, ae = some ⟨g, 0, none⟩ ∧ RX wq g m (twX EN m e 0)) ∧ Hid (Only (Value.slice ae m ce).ownBlock W2 wq)) (fun i _ _ => m - (intOf i).toNat)
  case atStart => exact ⟨0, Nat.zero_le _, rfl, HSE, Only.refl _ _⟩
  clear HSE
  obtain ⟨e, hem, rfl, HX, HO⟩ := hrel
  have kb := (HRB.out _ HO.out).cell (i := 1) rfl
  by_cases hel : e < m
  · have hel' : (e : Int) < m := by omega
    go_wp2
    clear kb
    go_loopw [6] (fun i wq => ∃ f : Nat, f ≤ m ∧ i = .int .i64 f ∧ Hid (0 < m → ∃ g, ae = some ⟨g, 0, none⟩ ∧ RX wq g m (twX EN m e f)) ∧ Hid (Only (Value.slice ae m ce).ownBlock W2 wq)) (fun i _ => m - (intOf i).toNat)
    case atStart => exact ⟨0, Nat.zero_le _, rfl, HX, HO⟩
    clear HX HO
    obtain ⟨f, hfm, rfl, HX, HO⟩ := hrel
    have kb := (HRB.out _ HO.out).cell (i := 1) rfl
    by_cases hfl : f < m
    · have hfl' : (f : Int) < m := by omega
      obtain ⟨g, hag, hr⟩ := HX.out (by omega)
      subst hag
      have a3 := RE.cell hr hel (j := 3) (by omega)
      have a4 := RE.cell hr hel (j := 4) (by omega)
      have a5 := RE.cell hr hel (j := 5) (by omega)
      have b3 := RE.cell hr hfl (j := 3) (by omega)
      have b4 := RE.cell hr hfl (j := 4) (by omega)
      have b5 := RE.cell hr hfl (j := 5) (by omega)
      have a6 := RE.cell hr hel (j := 6) (by omega)
      have z6 := RE.frozen hr (e * 7 + 6)
      simp only [twX_way, twX_seg, twX_back] at a3 a4 a5 b3 b4 b5
      have HXr' : Hid (RX wr g m (twX EN m e f)) := hr
      have HMT : Hid (mt (eat EN e) (eat EN f) = (decide ((eat EN e).way = (eat EN f).way) && (decide ((eat EN e).seg = (eat EN f).seg) && ((eat EN e).back != (eat EN f).back)))) := rfl
      clear hr HX
      have EB := cell_regrown kb
      have A3 := cell_regrown a3
      have A4 := cell_regrown a4
      have A5 := cell_regrown a5
      have B3 := cell_regrown b3
      have B4 := cell_regrown b4
      have B5 := cell_regrown b5
      generalize (eat EN e).way = we at *
      generalize (eat EN f).way = wf at *
      generalize (eat EN e).seg = se at *
      generalize (eat EN f).seg = sf at *
      generalize (eat EN e).back = be at *
      generalize (eat EN f).back = bf at *
      by_cases h1 : we = wf
      · have hd1 : (we == wf) = true := by simpa using h1
        by_cases h2 : se = sf
        · have hd2 : (se == sf) = true := by simpa using h2
          by_cases h3 : be = bf
          · have HF : Hid (mt (eat EN e) (eat EN f) = false) := by unfold Hid; rw [HMT.out]; simp [h3]
            subst h3
            have hd3 : (be != be) = false := by simp
            clear h1 h2
            go_wp2
            refine wp_region_quiet_below (by kernel_rfl) (by kernel_rfl) ?_
            repeat (go_big_quiet_step (fail))
            refine wpQuiet_nil ?_
            intro _ hw'
            obtain ⟨⟨dq, osq⟩, hw''⟩ := hw'
            subst hw''
            have HNq : Hid (Nx wr (Sort.grow (redrawn wr dq) osq)) := below_regrown _ dq osq
            clear EB A3 A4 A5 B3 B4 B5
            generalize hwq : Sort.grow (redrawn wr dq) osq = wq at *
            clear hwq
            have HO' : Hid (Only (Value.slice (some ⟨g, 0, none⟩) m ce).ownBlock W2 wq) := HO.out.nx HNq.out
            have HXq : Hid (RX wq g m (twX EN m e f)) := RE.next HXr'.out HNq.out
            have HX' : Hid (0 < m → ∃ g', (some ⟨g, 0, none⟩ : Option Addr) = some ⟨g', 0, none⟩ ∧ RX wq g' m (twX EN m e (f + 1))) := fun _ => ⟨g, rfl, RX.no HXq.out HF.out⟩
            clear kb a3 a4 a5 a6 b3 b4 b5 z6
            go_wp2
            go_roundw
            case rel => exact ⟨f + 1, by omega, by go_num, HX', HO'⟩
            case measure => simp [intOf]; omega
          · have HF : Hid (mt (eat EN e) (eat EN f) = true) := by unfold Hid; rw [HMT.out]; simp [h1, h2, h3]
            have h4 : bf = !be := by cases be <;> cases bf <;> simp_all
            subst h4
            have hd3 : (be != !be) = true := by simp
            clear h1 h2 h3
            go_wp2
            refine wp_region_quiet_below (by kernel_rfl) (by kernel_rfl) ?_
            repeat (go_big_quiet_step (fail))
            refine wpQuiet_nil ?_
            intro _ hw'
            obtain ⟨⟨dq, osq⟩, hw''⟩ := hw'
            subst hw''
            have HNq : Hid (Nx wr (Sort.grow (redrawn wr dq) osq)) := below_regrown _ dq osq
            clear EB A3 A4 A5 B3 B4 B5
            generalize hwq : Sort.grow (redrawn wr dq) osq = wq at *
            clear hwq
            have HO' : Hid (Only (Value.slice (some ⟨g, 0, none⟩) m ce).ownBlock W2 wq) := HO.out.nx HNq.out
            have HXq : Hid (RX wq g m (twX EN m e f)) := RE.next HXr'.out HNq.out
            have HX' : Hid (0 < m → ∃ g', (some ⟨g, 0, none⟩ : Option Addr) = some ⟨g', 0, none⟩ ∧ RX (wq.setCell ⟨g, e * 7 + 6, none⟩ (.int .i64 (f : Int))) g' m (twX EN m e (f + 1))) := fun _ => ⟨g, rfl, RX.tw HXq.out hel HF.out⟩
            have HO'' : Hid (Only (Value.slice (some ⟨g, 0, none⟩) m ce).ownBlock W2 (wq.setCell ⟨g, e * 7 + 6, none⟩ (.int .i64 (f : Int)))) := HO'.out.set rfl _
            clear kb a3 a4 a5 a6 b3 b4 b5 z6
            have kb := (HRB.out _ HO'.out).cell (i := 1) rfl
            have a6 := RE.cell HXq.out hel (j := 6) (by omega)
            have z6 := RE.frozen HXq.out (e * 7 + 6)
            go_wp2
            go_roundw
            case rel => exact ⟨f + 1, by omega, by go_num, HX', HO''⟩
            case measure => simp [intOf]; omega
        · have hd2 : (se == sf) = false := by simpa using h2
          have HF : Hid (mt (eat EN e) (eat EN f) = false) := by unfold Hid; rw [HMT.out]; simp [h2]
          clear h1 h2
          go_wp2
          refine wp_region_quiet_below (by kernel_rfl) (by kernel_rfl) ?_
          repeat (go_big_quiet_step (fail))
          refine wpQuiet_nil ?_
          intro _ hw'
          obtain ⟨⟨dq, osq⟩, hw''⟩ := hw'
          subst hw''
          have HNq : Hid (Nx wr (Sort.grow (redrawn wr dq) osq)) := below_regrown _ dq osq
          clear EB A3 A4 A5 B3 B4 B5
          generalize hwq : Sort.grow (redrawn wr dq) osq = wq at *
          clear hwq
          have HO' : Hid (Only (Value.slice (some ⟨g, 0, none⟩) m ce).ownBlock W2 wq) := HO.out.nx HNq.out
          have HXq : Hid (RX wq g m (twX EN m e f)) := RE.next HXr'.out HNq.out
          have HX' : Hid (0 < m → ∃ g', (some ⟨g, 0, none⟩ : Option Addr) = some ⟨g', 0, none⟩ ∧ RX wq g' m (twX EN m e (f + 1))) := fun _ => ⟨g, rfl, RX.no HXq.out HF.out⟩
          clear kb a3 a4 a5 a6 b3 b4 b5 z6
          go_wp2
          go_roundw
          case rel => exact ⟨f + 1, by omega, by go_num, HX', HO'⟩
          case measure => simp [intOf]; omega
      · have hd1 : (we == wf) = false := by simpa using h1
        have HF : Hid (mt (eat EN e) (eat EN f) = false) := by unfold Hid; rw [HMT.out]; simp [h1]
        clear h1
        go_wp2
        refine wp_region_quiet_below (by kernel_rfl) (by kernel_rfl) ?_
        repeat (go_big_quiet_step (fail))
        refine wpQuiet_nil ?_
        intro _ hw'
        obtain ⟨⟨dq, osq⟩, hw''⟩ := hw'
        subst hw''
        have HNq : Hid (Nx wr (Sort.grow (redrawn wr dq) osq)) := below_regrown _ dq osq
        clear EB A3 A4 A5 B3 B4 B5
        generalize hwq : Sort.grow (redrawn wr dq) osq = wq at *
        clear hwq
        have HO' : Hid (Only (Value.slice (some ⟨g, 0, none⟩) m ce).ownBlock W2 wq) := HO.out.nx HNq.out
        have HXq : Hid (RX wq g m (twX EN m e f)) := RE.next HXr'.out HNq.out
        have HX' : Hid (0 < m → ∃ g', (some ⟨g, 0, none⟩ : Option Addr) = some ⟨g', 0, none⟩ ∧ RX wq g' m (twX EN m e (f + 1))) := fun _ => ⟨g, rfl, RX.no HXq.out HF.out⟩
        clear kb a3 a4 a5 a6 b3 b4 b5 z6
        go_wp2
        go_roundw
        case rel => exact ⟨f + 1, by omega, by go_num, HX', HO'⟩
        case measure => simp [intOf]; omega
    have ef : m = f := by omega
    subst ef
    have HX' : Hid (0 < m → ∃ g, ae = some ⟨g, 0, none⟩ ∧ RX wr g m (twX EN m (e + 1) 0)) := fun h => by
      obtain ⟨g, h1, h2⟩ := HX.out h
      exact ⟨g, h1, RX.up h2 HT0.out⟩
    go_wp2
    go_roundw
    case rel => exact ⟨e + 1, by omega, by go_num, HX', HO⟩
    case measure => simp [intOf]; omega
  have ee : m = e := by omega
  subst ee
  have HX' : Hid (0 < m → ∃ g, ae = some ⟨g, 0, none⟩ ∧ RX wr g m (fun i => eat (E1 N) i)) := fun h => by
    obtain ⟨g, h1, h2⟩ := HX.out h
    refine ⟨g, h1, RE.congr h2 fun i j hi hj => ?_⟩
    have : twX EN m m 0 i = eat (E1 N) i := by rw [twin_eq N (by rw [HMM.out]; exact hi), HEN.out, HMM.out]; simp [twX, hi]
    rw [this]
  have HAG : Hid (∀ g, ae = some ⟨g, 0, none⟩ → w1.heap.size < g) := fun g hg => by
    have := HOB.out g (by rw [hg]; rfl)
    have := HZr.out
    omega
  have hBX : Blk wr w1.heap.size #[.slice av m0 cv, .slice ae m ce, .slice none 0 0, .slice none 0 0] := HRB.out _ HO.out
  have HBX : Hid (Blk wr w1.heap.size #[.slice av m0 cv, .slice ae m ce, .slice none 0 0, .slice none 0 0]) := hBX
  have HGB : Hid (w1.heap.size < wr.heap.size) := hBX.lt
  have HONr : Hid (OwnI (w1.heap.size + 1) wr (.slice av m0 cv) N.nodes) := HO.out.own HON'.out fun g hg e => by
    have := HNB.out g hg
    have := HOB.out g e.symm
    omega
  have HWL : Hid (Below w.heap.size w wr) := Below.trans (HX1.out.trans HN2.out) (HO.out.below (B := w.heap.size) (fun g hg => by have := HOB.out g hg; have := HZr.out; have := HX1.out.size; omega) (by have := HX1.out.size; have := HN2.out.size; omega))
  have HBRr : Hid (Blk wr (w.heap.size + 1) #[.slice none 0 0, .slice none 0 0, .slice none 0 0, .slice none 0 0]) := HO.out.blk (BR.next HN2.out) fun e => by
    have := HOB.out _ e.symm
    have := HZr.out
    have := BR.lt
    omega
  have HBRl : Hid (w.heap.size + 1 < w1.heap.size) := BR.lt
  clear hBX HX HO HRB HOB HNB HON' HN2 HE' HT0 BR HBR' HEN HZr kb
  have kb := HBX.out.cell (i := 1) rfl
  go_wp2
  clear kb
  generalize hWL : wr = WL at *
  go_loopw [7, 8] (fun i p8 wq => ∃ p : Nat, p ≤ m0 + 1 ∧ i = .int .i64 p ∧ Hid (∃ vF vO, FO w1.heap.size (.slice av m0 cv) (.slice ae m ce) WL.heap.size wq vF vO (fsL N p) (osL N p 0)) ∧ Hid (Only (some w1.heap.size) WL wq)) (fun i _ _ => m0 + 1 - (intOf i).toNat)
  case atStart => exact ⟨0, Nat.zero_le _, rfl, ⟨_, _, ⟨HBX.out, ⟨rfl, Or.inl ⟨rfl, rfl⟩⟩, ⟨rfl, Or.inl ⟨rfl, rfl⟩⟩, fun g hg => by simp [Value.ownBlock] at hg⟩⟩, Only.refl _ _⟩
  obtain ⟨p, hpn, rfl, HFO, HO⟩ := hrel
  by_cases hpl : p ≤ m0
  · obtain ⟨vF, vO, hf⟩ := HFO.out
    obtain ⟨aF, cF, hvF⟩ := hf.F.slice
    obtain ⟨aO, cO, hvO⟩ := hf.O.slice
    have HLF : Hid ((fsL N p).length = p) := fsL_len N p
    rw [fsL_len] at hvF
    generalize hL : (osL N p 0).length = L at hvO
    have HL : Hid ((osL N p 0).length = L) := hL
    have hL4 : L ≤ 4000 := by
      rw [← hL, osL_len0]
      have := cL_le (tlN N) p (mN N)
      have := HMM.out
      omega
    subst hvF hvO
    have HF : Hid (FO w1.heap.size (.slice av m0 cv) (.slice ae m ce) WL.heap.size wr (.slice aF p cF) (.slice aO L cO) (fsL N p) (osL N p 0)) := hf
    have k0 := hf.box.cell (i := 0) rfl
    have k2 := hf.box.cell (i := 2) rfl
    have k3 := hf.box.cell (i := 3) rfl
    have hpl' : (p : Int) ≤ m0 := by omega
    clear hf HFO hL
    go_wp2_with (at_builtin; refine wpList_append_own_at _ rfl _ _ 22 rfl WL.heap.size 2 ii (.int .i64 0) 1 8 Try.underlying22 hi hz0 hz1 hz2 rfl (by decide) _ _ _ rfl (World.ownsRow.alloc HF.out.F _) ⟨wr.heap.size, 0, none⟩ 1 1 [.int .i64 (L : Int)] rfl rfl (fun j u hj => new_cells wr _ _ _ rfl j u hj) ?c2 ?c3 ?c4 ?c5 ?_)
    case c2 => intro u hu; simp at hu; subst hu; rfl
    case c3 => rw [HLF.out]; unfold maxLen; omega
    case c4 => rw [HLF.out]; omega
    case c5 => have := HO.out.size; simp; omega
    intro v7 w7 hown hgrow _ hat
    have HF7 : Hid (FO w1.heap.size (.slice av m0 cv) (.slice ae m ce) WL.heap.size (w7.setCell ⟨w1.heap.size, 2, none⟩ v7) v7 (.slice aO L cO) (fsL N (p + 1)) (osL N p 0)) := by
      unfold Hid
      rw [fsL_succ, HL.out]
      exact HF.out.first HGB.out hown hgrow hat
    have HO7 : Hid (Only (some w1.heap.size) WL (w7.setCell ⟨w1.heap.size, 2, none⟩ v7)) := HO.out.app hgrow (fun g hg => (own_lt HF.out.F g hg).1) _
    have B7 := HF.out.boxF HGB.out hgrow
    have k2 := B7.cell (i := 2) rfl
    have z2 := B7.frozen 2
    obtain ⟨a7, c7, hv7⟩ := HF7.out.F.slice
    subst hv7
    clear B7 hown hgrow hat k0 k3 HF HO
    go_wp2
    clear k2 z2 hpl'
    go_loopw [8] (fun i wq => ∃ k : Nat, k ≤ m ∧ i = .int .i64 k ∧ Hid (∃ vF vO, FO w1.heap.size (.slice av m0 cv) (.slice ae m ce) WL.heap.size wq vF vO (fsL N (p + 1)) (osL N p k)) ∧ Hid (Only (some w1.heap.size) WL wq)) (fun i _ => m - (intOf i).toNat)
    case atStart => exact ⟨0, Nat.zero_le _, rfl, ⟨_, _, HF7.out⟩, HO7⟩
    clear HF7 HO7
    obtain ⟨k, hkm, rfl, HFO, HO⟩ := hrel
    by_cases hkl : k < m
    · obtain ⟨vF, vO, hf⟩ := HFO.out
      obtain ⟨aF, cF, hvF⟩ := hf.F.slice
      obtain ⟨aO, cO, hvO⟩ := hf.O.slice
      generalize hLF : (fsL N (p + 1)).length = LF at hvF
      generalize hL : (osL N p k).length = L at hvO
      have HL : Hid ((osL N p k).length = L) := hL
      have hL4 : L ≤ 8000 := by
        rw [← hL, osL_len]
        have := cL_le (tlN N) p (mN N)
        have := cE_le (tlN N) p k
        have := HMM.out
        omega
      subst hvF hvO
      have HF : Hid (FO w1.heap.size (.slice av m0 cv) (.slice ae m ce) WL.heap.size wr (.slice aF LF cF) (.slice aO L cO) (fsL N (p + 1)) (osL N p k)) := hf
      have k1 := hf.box.cell (i := 1) rfl
      have k3 := hf.box.cell (i := 3) rfl
      obtain ⟨g, hag, hr⟩ := HX'.out (by omega)
      have hag2 := HAG.out g hag
      subst hag
      have t0 := RE.cell (RE.only hr HO.out hag2) hkl (j := 0) (by omega)
      have t1 : cellAt (eat (E1 N) k) 0 = .int .i64 ((tlN N k : Nat) : Int) := by rw [← tail_tl HR.out (by rw [HMM.out]; exact hkl)]; rfl
      simp only [t1, Nat.add_zero] at t0
      clear t1 hr hag2 hf HFO hL hLF
      have hkl' : (k : Int) < m := by omega
      by_cases htp : tlN N k = p
      · have hOY : osL N p (k + 1) = osL N p k ++ [(k : Int)] := osL_yes htp
        have HOY : Hid (osL N p (k + 1) = osL N p k ++ [(k : Int)]) := hOY
        rw [htp] at t0
        clear hOY htp
        go_wp2_with (at_builtin; refine wpList_append_own_at _ rfl _ _ 22 rfl WL.heap.size 2 ii (.int .i64 0) 1 8 Try.underlying22 hi hz0 hz1 hz2 rfl (by decide) _ _ _ rfl (World.ownsRow.alloc HF.out.O _) ⟨wr.heap.size, 0, none⟩ 1 1 [.int .i64 (k : Int)] rfl rfl (fun j u hj => new_cells wr _ _ _ rfl j u hj) ?c2 ?c3 ?c4 ?c5 ?_)
        case c2 => intro u hu; simp at hu; subst hu; rfl
        case c3 => rw [HL.out]; unfold maxLen; omega
        case c4 => rw [HL.out]; omega
        case c5 => have := HO.out.size; simp; omega
        intro v7 w7 hown hgrow _ hat
        have HF7 : Hid (FO w1.heap.size (.slice av m0 cv) (.slice (some ⟨g, 0, none⟩) m ce) WL.heap.size (w7.setCell ⟨w1.heap.size, 3, none⟩ v7) (.slice aF LF cF) v7 (fsL N (p + 1)) (osL N p (k + 1))) := by
          unfold Hid
          rw [HOY.out]
          exact HF.out.out HGB.out hown hgrow hat
        have HO7 : Hid (Only (some w1.heap.size) WL (w7.setCell ⟨w1.heap.size, 3, none⟩ v7)) := HO.out.app hgrow (fun g hg => (own_lt HF.out.O g hg).1) _
        have B7 := HF.out.boxO HGB.out hgrow
        have k3 := B7.cell (i := 3) rfl
        have z3 := B7.frozen 3
        obtain ⟨a7, c7, hv7⟩ := HF7.out.O.slice
        subst hv7
        clear B7 hown hgrow hat k1 t0 HF HO
        go_wp2
        go_roundw
        case rel => exact ⟨k + 1, by omega, by go_num, ⟨_, _, HF7.out⟩, HO7⟩
        case measure => simp [intOf]; omega
      · have hd : (((tlN N k : Nat) : Int) == (p : Int)) = false := by simpa using (fun h => htp (by omega))
        have HF7 : Hid (FO w1.heap.size (.slice av m0 cv) (.slice (some ⟨g, 0, none⟩) m ce) WL.heap.size wr (.slice aF LF cF) (.slice aO L cO) (fsL N (p + 1)) (osL N p (k + 1))) := by
          unfold Hid
          rw [osL_no htp]
          exact HF.out
        clear htp HF
        generalize ((tlN N k : Nat) : Int) = tk at *
        go_wp2
        go_roundw
        case rel => exact ⟨k + 1, by omega, by go_num, ⟨_, _, HF7.out⟩, HO⟩
        case measure => simp [intOf]; omega
    have ekm : m = k := by omega
    subst ekm
    have HF7 : Hid (∃ vF vO, FO w1.heap.size (.slice av m0 cv) (.slice ae m ce) WL.heap.size wr vF vO (fsL N (p + 1)) (osL N (p + 1) 0)) := by
      have := HFO.out
      rw [← osL_up, HMM.out]
      exact this
    have k1 : wr.cell? ⟨w1.heap.size, 1, none⟩ = some (.slice ae m ce) := by
      obtain ⟨_, _, hf⟩ := HFO.out
      exact hf.box.cell (i := 1) rfl
    clear HFO
    go_wp2
    go_roundw
    case rel => exact ⟨p + 1, by omega, by go_num, HF7, HO⟩
    case measure => simp [intOf]; omega
  have epm : p = m0 + 1 := by omega
  subst epm
  obtain ⟨vF, vO, hf⟩ := HFO.out
  obtain ⟨aF, cF, hvF⟩ := hf.F.slice
  obtain ⟨aO, cO, hvO⟩ := hf.O.slice
  generalize (fsL N (m0 + 1)).length = LF at hvF
  generalize (osL N (m0 + 1) 0).length = LO at hvO
  subst hvF hvO
  have HF : Hid (FO w1.heap.size (.slice av m0 cv) (.slice ae m ce) WL.heap.size wr (.slice aF LF cF) (.slice aO LO cO) (fsL N (m0 + 1)) (osL N (m0 + 1) 0)) := hf
  have k0 := hf.box.cell (i := 0) rfl
  have k1 := hf.box.cell (i := 1) rfl
  have k2 := hf.box.cell (i := 2) rfl
  have k3 := hf.box.cell (i := 3) rfl
  have BRz : Blk wr (w.heap.size + 1) #[.slice none 0 0, .slice none 0 0, .slice none 0 0, .slice none 0 0] := HO.out.blk HBRr.out fun e => by
    have := Option.some.inj e
    have := HBRl.out
    omega
  have rz0 := BRz.cell (i := 0) rfl
  have rz1 := BRz.cell (i := 1) rfl
  have rz2 := BRz.cell (i := 2) rfl
  have rz3 := BRz.cell (i := 3) rfl
  have rf0 := BRz.frozen 0
  have rf1 := BRz.frozen 1
  have rf2 := BRz.frozen 2
  have rf3 := BRz.frozen 3
  have hpl' : ¬ ((m0 + 1 : Nat) : Int) ≤ m0 := by omega
  clear hf HFO
  go_wp2
  have BR' := (((BRz.set 0 (.slice av m0 cv)).set 1 (.slice ae m ce)).set 2 (.slice aF LF cF)).set 3 (.slice aO LO cO)
  have q0 := BR'.cell (i := 0) rfl
  have q1 := BR'.cell (i := 1) rfl
  have q2 := BR'.cell (i := 2) rfl
  have q3 := BR'.cell (i := 3) rfl
  refine bodyPost_ret (v := .agg #[.slice av m0 cv, .slice ae m ce, .slice aF LF cF, .slice aO LO cO]) (by simp [results, Try.results10, go_sem, q0, q1, q2, q3]) rfl ⟨⟨_, _, _, _, rfl, ?_⟩, ?_⟩
  · have z0 := HGB.out
    have z1 := HBRl.out
    have z2 := HX1.out.size
    have eR : roadOf N = ⟨N.nodes, E1 N, fsL N (m0 + 1), osL N (m0 + 1) 0⟩ := by simp [roadOf, HV.out, roadY, fsL, osL, grp, HM0.out]
    rw [eR]
    refine ⟨?_, ?_, ?_, ?_⟩
    · refine (OwnI.base (B := w1.heap.size + 1) ?_ (by omega)).held
      exact own_store (own_store (own_store (own_store (HO.out.own HONr.out fun g hg e => by have := (own_lt HONr.out g hg).1; have := Option.some.inj e; omega) (by omega) _ _) (by omega) _ _) (by omega) _ _) (by omega) _ _
    · refine edges_of (by rw [E1_len]; exact HMM.out) (by unfold maxLen; omega) fun h0 => ?_
      obtain ⟨g, hag, hr⟩ := HX'.out h0
      have hag2 := HAG.out g hag
      exact ⟨g, hag, by omega, RE.setOther (RE.setOther (RE.setOther (RE.setOther (RE.only hr HO.out hag2) (by simp; omega) _) (by simp; omega) _) (by simp; omega) _) (by simp; omega) _⟩
    · refine (OwnI.base (B := WL.heap.size) ?_ (by omega)).held
      exact own_store (own_store (own_store (own_store HF.out.F (by omega) _ _) (by omega) _ _) (by omega) _ _) (by omega) _ _
    · refine (OwnI.base (B := WL.heap.size) ?_ (by omega)).held
      exact own_store (own_store (own_store (own_store HF.out.O (by omega) _ _) (by omega) _ _) (by omega) _ _) (by omega) _ _
  · have z1 := HBRl.out
    have z0 := HGB.out
    exact Below.setCell (Below.setCell (Below.setCell (Below.setCell (Below.trans HWL.out (HO.out.below (B := w.heap.size) (fun g hg => by have := Option.some.inj hg; omega) (by omega))) (by simp) _) (by simp) _) (by simp) _) (by simp) _
end Go.Proofs.Ytmpkjlknnicdaaa
