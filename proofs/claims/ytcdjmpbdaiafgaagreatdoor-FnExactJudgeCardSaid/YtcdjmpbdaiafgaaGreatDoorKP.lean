import Derived.Test.YtcdjmpbdaiafgaaGreatDoorKN
namespace Go.Proofs.YtcdjmpbdaiafgaaGreatDoor
open Go.RowKit Go.Sort
set_option linter.unusedVariables false
set_option maxRecDepth 100000

theorem infoPtr : (Tryz.prog.info? 120).map (fun i => (i.zero, i.size, i.bytes)) = some (some (.pointer none), 1, 8) := by kernel_rfl
theorem infoStr : (Tryz.prog.info? 160).map (fun i => (i.zero, i.size, i.bytes)) = some (some (.agg #[.int .i64 0, .int .i64 0, .slice none 0 0]), 3, 40) := by kernel_rfl
/-- a row of pointers of our own -/
def ptc (ps : List Nat) : List Value := ps.map fun p => .pointer (some ⟨p, 0, none⟩)
def OwnPt (C : Nat) (w : World) (v : Value) (ps : List Nat) : Prop := w.ownsRow C 120 1 v ps.length (ptc ps)
theorem OwnPt.snoc {C : Nat} {w : World} {v : Value} {ps : List Nat} {p : Nat} (h : w.ownsRow C 120 1 v (ps.length + 1) (ptc ps ++ [.pointer (some ⟨p, 0, none⟩)])) : OwnPt C w v (ps ++ [p]) := by
  unfold OwnPt
  have e : ptc (ps ++ [p]) = ptc ps ++ [.pointer (some ⟨p, 0, none⟩)] := by simp [ptc]
  rw [List.length_append, e]
  exact h
theorem OwnPt.open {C : Nat} {w : World} {v : Value} {ps : List Nat} (h : OwnPt C w v ps) (hp : 0 < ps.length) : ∃ g c, v = .slice (some ⟨g, 0, none⟩) ps.length c ∧ C ≤ g ∧ ps.length ≤ maxLen ∧ RWP w g ps.length (fun i => ps.getD i 0) := by
  obtain ⟨h1, h2⟩ := h
  rcases h2 with ⟨_, h3⟩ | ⟨g, cap, cur, hv, hg, hh, hc, hm, hs, ht⟩
  · omega
  · refine ⟨g, cap, hv, hg, by omega, cur, hh, by omega, fun i hi => ?_⟩
    have e : (cur.toList.take (ps.length * 1))[i]? = (ptc ps)[i]? := by rw [ht]
    rw [List.getElem?_take_of_lt (by omega), Array.getElem?_toList] at e
    rw [e]
    simp [ptc, List.getD_eq_getElem?_getD, hi]
theorem OwnPt.held {C : Nat} {w : World} {v : Value} {ps : List Nat} (h : OwnPt C w v ps) : HPtrs C w v ps := by
  by_cases hp : 0 < ps.length
  · obtain ⟨g, c, rfl, hg, hm, hr⟩ := h.open hp
    exact hr.held rfl hm (fun _ _ => rfl) hg
  · obtain ⟨a, c, e⟩ := row_slice h
    have h0 : ps.length = 0 := by omega
    exact ⟨a, c, e, by rw [h0]; simp [maxLen], fun h => by omega⟩
/-- a row of stretches of our own -/
def stc (es : List Eg) (x : List Nat × Value) : List Value := [.int .i64 (tlL es x.1), .int .i64 (hdL es x.1), x.2]
def OwnS (C D : Nat) (w : World) (v : Value) (es : List Eg) (ls : List (List Nat)) : Prop :=
  ∃ us : List Value, us.length = ls.length ∧ w.ownsRow C 160 3 v ls.length ((ls.zip us).flatMap (stc es)) ∧ ∀ i, i < ls.length → OwnI D w (vat us i) (nums (lsat ls i))
theorem Only.refl' (o : Option Nat) {w w' : World} (h : Nx w w') : Only o w w' := ⟨h.os, h.tape, h.output, h.size, fun b hb _ => h.block b hb⟩
theorem Only.cellO {o : Option Nat} {w w' : World} (h : Only o w w') {b i : Nat} {v : Value} (hn : some b ≠ o) (hc : w.cell? ⟨b, i, none⟩ = some v) : w'.cell? ⟨b, i, none⟩ = some v := by
  rw [World.cell?_of_block (h.block b (cell_lt hc) hn)]
  exact hc
theorem Only.tr {o : Option Nat} {a b c : World} (h : Only o a b) (k : Only o b c) : Only o a c :=
  ⟨k.os.trans h.os, k.tape.trans h.tape, k.output.trans h.output, Nat.le_trans h.size k.size, fun x hx hn => (k.block x (Nat.lt_of_lt_of_le hx h.size) hn).trans (h.block x hx hn)⟩
/-- what turned is a row made since -/
theorem Only.young {o p : Option Nat} {a b c : World} (h : Only o a b) (k : Only p b c) (hp : ∀ g, p = some g → a.heap.size ≤ g) : Only o a c :=
  ⟨k.os.trans h.os, k.tape.trans h.tape, k.output.trans h.output, Nat.le_trans h.size k.size, fun x hx hn => (k.block x (Nat.lt_of_lt_of_le hx h.size) (fun e => by have := hp x e.symm; omega)).trans (h.block x hx hn)⟩
theorem EB.on {o : Option Nat} {w w' : World} {b e : Nat} {x : Eg} (h : EB w b e x) (k : Only o w w') (hn : some b ≠ o) : EB w' b e x :=
  ⟨k.cellO hn h.tail, k.cellO hn h.head, k.cellO hn h.wgt, k.cellO hn h.back, k.cellO hn h.twin, k.cellO hn h.num⟩
theorem EB.ne {w : World} {b e bw : Nat} {x : Eg} {v0 v1 v2 : Value} (h : EB w b e x) (k : Blk w bw #[v0, v1, v2]) : b ≠ bw := by
  rintro rfl
  obtain ⟨t, hb⟩ := k
  have := h.num
  simp [World.cell?, hb] at this
theorem OwnS.one {C D : Nat} {w : World} {g : Nat} {es : List Eg} {l : List Nat} {u : Value} (hg : C ≤ g) (hr : w.heap[g]? = some (.cells #[.int .i64 (tlL es l), .int .i64 (hdL es l), u] 160 (0, 0))) (hu : OwnI D w u (nums l)) : OwnS C D w (.slice (some ⟨g, 0, none⟩) 1 1) es [l] :=
  ⟨[u], rfl, ⟨rfl, Or.inr ⟨g, 1, _, rfl, hg, hr, Nat.le_refl _, by simp [maxLen], by simp, by simp [stc]⟩⟩, fun i hi => by
    have : i = 0 := by simpa using hi
    subst this
    exact hu⟩
theorem rev_getD (l : List Nat) (eb : Nat → Nat) {i : Nat} (hi : i < l.length) : (l.map eb).getD (l.length - 1 - i) 0 = (l.reverse.map eb).getD i 0 := by
  have h1 : l.length - 1 - i < l.length := by omega
  simp [List.getD_eq_getElem?_getD, hi, h1]
theorem take_filter {l : List Nat} {p : Nat → Bool} {k : Nat} (hk : k < l.length) (h : p (l.getD k 0) = true) : (l.take (k + 1)).filter p = (l.take k).filter p ++ [l.getD k 0] := by
  rw [take_getD hk, List.filter_append]
  simp only [List.filter_cons, h, if_true, List.filter_nil]
theorem take_filter' {l : List Nat} {p : Nat → Bool} {k : Nat} (hk : k < l.length) (h : p (l.getD k 0) = false) : (l.take (k + 1)).filter p = (l.take k).filter p := by
  rw [take_getD hk, List.filter_append]
  simp only [List.filter_cons, h, Bool.false_eq_true, if_false, List.filter_nil, List.append_nil]

/-- the traversals of a way -/
def trv (es : List Eg) (l : List Nat) : List (List Nat) := [l.filter (fun e => !(eat es e).back)] ++ if l.filter (fun e => (eat es e).back) = [] then [] else [(l.filter (fun e => (eat es e).back)).reverse]
theorem trv_nil {es : List Eg} {l lf : List Nat} (h : l.filter (fun e => !(eat es e).back) = lf) (k : l.filter (fun e => (eat es e).back) = []) : trv es l = [lf] := by unfold trv; rw [h, k, if_pos rfl]; rfl
theorem trv_two {es : List Eg} {l lf lb : List Nat} (h : l.filter (fun e => !(eat es e).back) = lf) (k : l.filter (fun e => (eat es e).back) = lb) (hb : lb ≠ []) : trv es l = [lf, lb.reverse] := by unfold trv; rw [h, k, if_neg hb]; rfl

/-- a block with its type -/
def BT (w : World) (b : Nat) (cs : Array Value) (t : Nat) : Prop := w.heap[b]? = some (.cells cs t (0, 0))
theorem BT.lt {w : World} {b t : Nat} {cs : Array Value} (h : BT w b cs t) : b < w.heap.size := (Array.getElem?_eq_some_iff.1 h).1
theorem BT.blk {w : World} {b t : Nat} {cs : Array Value} (h : BT w b cs t) : Blk w b cs := ⟨t, h⟩
theorem BT.new (w : World) (cs : Array Value) (t n : Nat) (hn : n = w.heap.size) : BT (w.alloc (.cells cs t)) n cs t := by
  subst hn
  unfold BT
  show (w.heap.push _)[w.heap.size]? = _
  simp
theorem BT.set {w : World} {b t : Nat} {cs : Array Value} (h : BT w b cs t) (i : Nat) (v : Value) : BT (w.setCell ⟨b, i, none⟩ v) b (cs.setIfInBounds i v) t := by
  unfold BT at h ⊢
  simp [World.setCell, Array.getElem?_modify, h]
theorem BT.next {w w' : World} {b t : Nat} {cs : Array Value} (h : BT w b cs t) (k : Nx w w') : BT w' b cs t := (k.block b h.lt).trans h
theorem BT.alloc {w : World} {b t : Nat} {cs : Array Value} (h : BT w b cs t) (o : Obj) : BT (w.alloc o) b cs t := h.next (box1 _ _)
theorem BT.grown {w w' : World} {o : Option Nat} {b t : Nat} {cs : Array Value} (h : BT w b cs t) (k : w.grownBy w' o) (hn : some b ≠ o) : BT w' b cs t := (k.block b h.lt hn).trans h
theorem Only.bt {o : Option Nat} {w w' : World} {b t : Nat} {cs : Array Value} (k : Only o w w') (h : BT w b cs t) (hn : some b ≠ o) : BT w' b cs t := (k.block b h.lt hn).trans h

set_option maxHeartbeats 16000000 in
theorem traverse_any (B bw : Nat) (id : Int) (ve : Value) (es : List Eg) (eb : Nat → Nat) (l : List Nat) (w : World) (hbox : BT w bw #[.int .i64 id, ve, .slice none 0 0] 119) (hP : HPtrs B w ve (l.map eb)) (hlen : l.length ≤ 4000) (he : ∀ e ∈ l, EB w (eb e) e (eat es e)) (hf : l.filter (fun e => !(eat es e).back) ≠ []) :
    Calls Tryz.prog 69 #[.pointer (some ⟨bw, 0, none⟩)] w fun e w' => (∃ x, e = .returned x) ∧ (∃ vt, BT w' bw #[.int .i64 id, ve, vt] 119 ∧ OwnS w.heap.size w.heap.size w' vt es (trv es l)) ∧ Only (some bw) w w' := by
  obtain ⟨ip, hip, hp0, hp1, hp2⟩ := info_parts infoPtr
  obtain ⟨iS, hiS, hs0, hs1, hs2⟩ := info_parts infoStr
  have HBX : Hid (BT w bw #[.int .i64 id, ve, .slice none 0 0] 119) := hbox
  have HP : Hid (HPtrs B w ve (l.map eb)) := hP
  have HE : Hid (∀ e ∈ l, EB w (eb e) e (eat es e)) := he
  have HFN : Hid (l.filter (fun e => !(eat es e).back) ≠ []) := hf
  obtain ⟨a, cap, hve, jm, jk⟩ := hP
  rw [List.length_map] at hve
  generalize hln : l.length = n at *
  have HLN : Hid (l.length = n) := hln
  subst hve
  have x1 := hbox.blk.cell (i := 1) rfl
  clear jm jk hbox he hf hln
  go_enter Tryz.func69, Tryz.ntmps69
  go_wp2
  go_loopw [2, 3, 11] (fun u2 u3 i wr => ∃ k : Nat, k ≤ n ∧ i = .int .i64 k ∧ Hid (OwnPt w.heap.size wr u2 ((l.take k).filter (fun e => !(eat es e).back) |>.map eb)) ∧ Hid (OwnPt w.heap.size wr u3 ((l.take k).filter (fun e => (eat es e).back) |>.map eb)) ∧ Hid (Nx w wr) ∧ Hid (∀ g, u2.ownBlock = some g → u3.ownBlock ≠ some g)) (fun _ _ i _ => n - (intOf i).toNat)
  case atStart => exact ⟨0, Nat.zero_le _, rfl, ⟨rfl, Or.inl ⟨rfl, rfl⟩⟩, ⟨rfl, Or.inl ⟨rfl, rfl⟩⟩, Below.refl _ _, fun g h => by simp [Value.ownBlock] at h⟩
  obtain ⟨k, hkm, rfl, HF, HB, HN, HNE⟩ := hrel
  by_cases hlt : k < n
  · have hlt' : (k : Int) < n := by omega
    have HKL : Hid (k < l.length) := by unfold Hid; rw [HLN.out]; exact hlt
    obtain ⟨b, off, c, hae, hb, hc⟩ := HP.out.at (by have := HKL.out; omega)
    simp only [Value.slice.injEq] at hae
    obtain ⟨rfl, jl, rfl⟩ := hae
    have c0 := cellq HN.out (hc k HKL.out)
    have HEX := HE.out _ (show l.getD k 0 ∈ l by rw [show l.getD k 0 = l[k]'HKL.out by simp [List.getD_eq_getElem?_getD, HKL.out]]; exact List.getElem_mem _)
    have c1 := cellq HN.out HEX.back
    have HY1 : Hid ((fun e => !(eat es e).back) (l.getD k 0) = true → (l.take (k + 1)).filter (fun e => !(eat es e).back) = (l.take k).filter (fun e => !(eat es e).back) ++ [l.getD k 0]) := fun h => take_filter HKL.out h
    have HY2 : Hid ((fun e => !(eat es e).back) (l.getD k 0) = false → (l.take (k + 1)).filter (fun e => !(eat es e).back) = (l.take k).filter (fun e => !(eat es e).back)) := fun h => take_filter' HKL.out h
    have HY3 : Hid ((fun e => (eat es e).back) (l.getD k 0) = true → (l.take (k + 1)).filter (fun e => (eat es e).back) = (l.take k).filter (fun e => (eat es e).back) ++ [l.getD k 0]) := fun h => take_filter HKL.out h
    have HY4 : Hid ((fun e => (eat es e).back) (l.getD k 0) = false → (l.take (k + 1)).filter (fun e => (eat es e).back) = (l.take k).filter (fun e => (eat es e).back)) := fun h => take_filter' HKL.out h
    have HLL : Hid (((l.take k).filter (fun e => !(eat es e).back)).length ≤ 4000 ∧ ((l.take k).filter (fun e => (eat es e).back)).length ≤ 4000) := by
      have h1 := List.length_filter_le (fun e => !(eat es e).back) (l.take k)
      have h2 := List.length_filter_le (fun e => (eat es e).back) (l.take k)
      have h3 : (l.take k).length ≤ l.length := by rw [List.length_take]; omega
      have := HLN.out
      exact ⟨by omega, by omega⟩
    clear hc jl HEX
    generalize l.getD k 0 = x at *
    obtain ⟨fa, fc, hfe⟩ := row_slice HF.out
    obtain ⟨ba, bc, hbe⟩ := row_slice HB.out
    have HLL2 : Hid (((l.take k).filter (fun e => !(eat es e).back) |>.map eb).length ≤ 4000 ∧ ((l.take k).filter (fun e => (eat es e).back) |>.map eb).length ≤ 4000) := ⟨by rw [List.length_map]; exact HLL.out.1, by rw [List.length_map]; exact HLL.out.2⟩
    have HQ1 : Hid ((fun e => !(eat es e).back) x = true → ((l.take (k + 1)).filter (fun e => !(eat es e).back) |>.map eb) = ((l.take k).filter (fun e => !(eat es e).back) |>.map eb) ++ [eb x]) := fun h => by rw [HY1.out h, List.map_append]; rfl
    have HQ2 : Hid ((fun e => !(eat es e).back) x = false → ((l.take (k + 1)).filter (fun e => !(eat es e).back) |>.map eb) = ((l.take k).filter (fun e => !(eat es e).back) |>.map eb)) := fun h => by rw [HY2.out h]
    have HQ3 : Hid ((fun e => (eat es e).back) x = true → ((l.take (k + 1)).filter (fun e => (eat es e).back) |>.map eb) = ((l.take k).filter (fun e => (eat es e).back) |>.map eb) ++ [eb x]) := fun h => by rw [HY3.out h, List.map_append]; rfl
    have HQ4 : Hid ((fun e => (eat es e).back) x = false → ((l.take (k + 1)).filter (fun e => (eat es e).back) |>.map eb) = ((l.take k).filter (fun e => (eat es e).back) |>.map eb)) := fun h => by rw [HY4.out h]
    generalize ((l.take k).filter (fun e => !(eat es e).back) |>.map eb) = fs at *
    generalize ((l.take k).filter (fun e => (eat es e).back) |>.map eb) = bs at *
    generalize hfl : fs.length = fl at *
    generalize hbl : bs.length = bl at *
    have HLF : Hid (fs.length = fl) := hfl
    have HLB : Hid (bs.length = bl) := hbl
    have hfl4 : fl ≤ 4000 := HLL2.out.1
    have hbl4 : bl ≤ 4000 := HLL2.out.2
    subst hfe hbe
    clear hfl hbl HLL HLL2 HY1 HY2 HY3 HY4
    cases hbk : (eat es x).back
    · have HEF : Hid (((l.take (k + 1)).filter (fun e => !(eat es e).back) |>.map eb) = fs ++ [eb x]) := HQ1.out (by simp [hbk])
      have HEB : Hid (((l.take (k + 1)).filter (fun e => (eat es e).back) |>.map eb) = bs) := HQ4.out hbk
      have HNEF : Hid (∀ g, (Value.slice ba bl bc).ownBlock = some g → (Value.slice fa fl fc).ownBlock ≠ some g) := fun g h e => HNE.out g e h
      rw [hbk] at c1
      clear hbk
      go_wp2_with (at_builtin; refine wpList_append_own_at _ rfl _ _ 113 rfl w.heap.size 120 ip (.pointer none) 1 8 Tryz.underlying113 hip hp0 hp1 hp2 rfl (by decide) _ _ _ rfl (World.ownsRow.alloc HF.out _) ⟨wr.heap.size, 0, none⟩ 1 1 [.pointer (some ⟨eb x, 0, none⟩)] rfl rfl (fun j u hj => new_cells wr _ _ _ rfl j u hj) ?f2 ?f3 ?f4 ?f5 ?_)
      case f2 => first | rfl | (intro u hu; simp at hu; subst hu; rfl)
      case f3 => have := HLF.out; unfold maxLen; omega
      case f4 => have := HLF.out; omega
      case f5 => have := HN.out.size; first | omega | (rw [size_alloc']; omega)
      intro v7 w7 hown hgrow _ hat7
      have HO7 : Hid (OwnPt w.heap.size w7 v7 ((l.take (k + 1)).filter (fun e => !(eat es e).back) |>.map eb)) := by unfold Hid; rw [HEF.out]; exact OwnPt.snoc hown
      have HK7 : Hid (OwnPt w.heap.size w7 (Value.slice ba bl bc) ((l.take (k + 1)).filter (fun e => (eat es e).back) |>.map eb)) := by unfold Hid; rw [HEB.out]; exact World.ownsRow.kept (World.ownsRow.alloc HB.out _) hgrow (by
          rcases Option.eq_none_or_eq_some (Value.slice ba bl bc).ownBlock with h | ⟨g, h⟩
          · exact Or.inl h
          · exact Or.inr (fun e => HNEF.out g h (e.symm.trans h)))
      have HN7 : Hid (Nx w w7) := Below.grown (HN.out.alloc _) hgrow (by rw [size_alloc']; have := HN.out.size; omega) (fun g hg => (own_lt HF.out g hg).1)
      have HD7 : Hid (∀ g, (Value.slice ba bl bc).ownBlock = some g → v7.ownBlock ≠ some g) := fun g hg e => by
        rcases hat7 with h | h
        · exact HNEF.out g hg (h.symm.trans e)
        · have h1 := (own_lt HB.out g hg).2
          rw [h] at e
          have h2 := Option.some.inj e
          first | omega | (rw [size_alloc'] at h2; omega)
      clear hown hgrow hat7
      go_wp2
      go_roundw
      case rel => exact ⟨k + 1, by omega, by go_num, HO7, HK7, HN7, fun g h e => HD7.out g e h⟩
      case measure => simp [intOf]; omega
    · have HEB : Hid (((l.take (k + 1)).filter (fun e => (eat es e).back) |>.map eb) = bs ++ [eb x]) := HQ3.out hbk
      have HEF : Hid (((l.take (k + 1)).filter (fun e => !(eat es e).back) |>.map eb) = fs) := HQ2.out (by simp [hbk])
      have HNEB : Hid (∀ g, (Value.slice fa fl fc).ownBlock = some g → (Value.slice ba bl bc).ownBlock ≠ some g) := HNE.out
      rw [hbk] at c1
      clear hbk
      go_wp2_with (at_builtin; refine wpList_append_own_at _ rfl _ _ 113 rfl w.heap.size 120 ip (.pointer none) 1 8 Tryz.underlying113 hip hp0 hp1 hp2 rfl (by decide) _ _ _ rfl (World.ownsRow.alloc HB.out _) ⟨wr.heap.size, 0, none⟩ 1 1 [.pointer (some ⟨eb x, 0, none⟩)] rfl rfl (fun j u hj => new_cells wr _ _ _ rfl j u hj) ?f2 ?f3 ?f4 ?f5 ?_)
      case f2 => first | rfl | (intro u hu; simp at hu; subst hu; rfl)
      case f3 => have := HLB.out; unfold maxLen; omega
      case f4 => have := HLB.out; omega
      case f5 => have := HN.out.size; first | omega | (rw [size_alloc']; omega)
      intro v7 w7 hown hgrow _ hat7
      have HO7 : Hid (OwnPt w.heap.size w7 v7 ((l.take (k + 1)).filter (fun e => (eat es e).back) |>.map eb)) := by unfold Hid; rw [HEB.out]; exact OwnPt.snoc hown
      have HK7 : Hid (OwnPt w.heap.size w7 (Value.slice fa fl fc) ((l.take (k + 1)).filter (fun e => !(eat es e).back) |>.map eb)) := by unfold Hid; rw [HEF.out]; exact World.ownsRow.kept (World.ownsRow.alloc HF.out _) hgrow (by
          rcases Option.eq_none_or_eq_some (Value.slice fa fl fc).ownBlock with h | ⟨g, h⟩
          · exact Or.inl h
          · exact Or.inr (fun e => HNEB.out g h (e.symm.trans h)))
      have HN7 : Hid (Nx w w7) := Below.grown (HN.out.alloc _) hgrow (by rw [size_alloc']; have := HN.out.size; omega) (fun g hg => (own_lt HB.out g hg).1)
      have HD7 : Hid (∀ g, (Value.slice fa fl fc).ownBlock = some g → v7.ownBlock ≠ some g) := fun g hg e => by
        rcases hat7 with h | h
        · exact HNEB.out g hg (h.symm.trans e)
        · have h1 := (own_lt HF.out g hg).2
          rw [h] at e
          have h2 := Option.some.inj e
          first | omega | (rw [size_alloc'] at h2; omega)
      clear hown hgrow hat7
      go_wp2
      go_roundw
      case rel => exact ⟨k + 1, by omega, by go_num, HK7, HO7, HN7, HD7⟩
      case measure => simp [intOf]; omega
  have ek : n = k := by omega
  subst ek
  have HTK : Hid (l.take n = l) := by unfold Hid; rw [← HLN.out, List.take_length]
  have HFA : Hid (OwnPt w.heap.size wr u2 ((l.filter (fun e => !(eat es e).back)).map eb)) := by have := HF.out; rw [HTK.out] at this; exact this
  have HBA : Hid (OwnPt w.heap.size wr u3 ((l.filter (fun e => (eat es e).back)).map eb)) := by have := HB.out; rw [HTK.out] at this; exact this
  have HEF : Hid (∀ e ∈ l.filter (fun e => !(eat es e).back), EB wr (eb e) e (eat es e)) := fun e he => (HE.out e (List.mem_filter.1 he).1).next HN.out
  have HEBK : Hid (∀ e ∈ (l.filter (fun e => (eat es e).back)).reverse, EB w (eb e) e (eat es e)) := fun e he => HE.out e (List.mem_filter.1 (List.mem_reverse.1 he)).1
  have HFL : Hid ((l.filter (fun e => !(eat es e).back)).length ≤ 4000 ∧ (l.filter (fun e => (eat es e).back)).length ≤ 4000) := by
    have h1 := List.length_filter_le (fun e => !(eat es e).back) l
    have h2 := List.length_filter_le (fun e => (eat es e).back) l
    have := HLN.out
    exact ⟨by omega, by omega⟩
  have BXr : Hid (BT wr bw #[.int .i64 id, .slice a n cap, .slice none 0 0] 119) := HBX.out.next HN.out
  have hbwl : bw < w.heap.size := HBX.out.lt
  generalize hlfe : l.filter (fun e => !(eat es e).back) = lf at *
  generalize hlbe : l.filter (fun e => (eat es e).back) = lb at *
  have HLFE : Hid (l.filter (fun e => !(eat es e).back) = lf) := hlfe
  have HLBE : Hid (l.filter (fun e => (eat es e).back) = lb) := hlbe
  clear hlfe hlbe
  obtain ⟨fa, fc, hfe⟩ := row_slice HFA.out
  obtain ⟨ba, bc, hbe⟩ := row_slice HBA.out
  rw [List.length_map] at hfe hbe
  subst hfe hbe
  have x2 := BXr.out.blk.cell (i := 2) rfl
  have z2 := BXr.out.blk.frozen 2
  clear hlt hkm HF HB
  go_wp2_with fail
  refine (stretchOf_any w.heap.size _ es eb lf _ HFA.out.held HFN.out HFL.out.1 HEF.out).mono ?_
  rintro e w4 ⟨⟨u4, rfl, hO4⟩, hx4⟩
  have HX4 : Hid (Nx wr w4) := hx4
  have HO4 : Hid (OwnI wr.heap.size w4 u4 (nums lf)) := hO4
  obtain ⟨ua, uc, hu4⟩ := hO4.slice
  generalize (nums lf).length = ul at hu4
  subst hu4
  generalize hW5 : w4.alloc (.cells #[.int .i64 (tlL es lf), .int .i64 (hdL es lf), .slice ua ul uc] 160) = w5
  have HX5 : Hid (Nx w4 w5) := by unfold Hid; rw [← hW5]; exact box1 _ _
  have HR5 : Hid (w5.heap[w4.heap.size]? = some (.cells #[.int .i64 (tlL es lf), .int .i64 (hdL es lf), .slice ua ul uc] 160 (0, 0))) := by unfold Hid; rw [← hW5]; show (w4.heap.push _)[w4.heap.size]? = _; simp
  have BX5 : Hid (BT w5 bw #[.int .i64 id, .slice a n cap, .slice none 0 0] 119) := (BXr.out.next HX4.out).next HX5.out
  have y2 := BX5.out.blk.cell (i := 2) rfl
  have f2 := BX5.out.blk.frozen 2
  have HUG : Hid (∀ g, (Value.slice ua ul uc).ownBlock = some g → g < w4.heap.size) := fun g hg => (own_lt HO4.out g hg).2
  clear hO4 hx4 x2 z2
  go_upto_region 9 with fail
  clear hW5
  generalize hW6 : w5.setCell ⟨bw, 2, none⟩ (.slice (some ⟨w4.heap.size, 0, none⟩) 1 1) = w6
  have HBX6 : Hid (BT w6 bw #[.int .i64 id, .slice a n cap, .slice (some ⟨w4.heap.size, 0, none⟩) 1 1] 119) := by unfold Hid; rw [← hW6]; exact BX5.out.set 2 _
  have HON6 : Hid (Only (some bw) w w6) := by unfold Hid; rw [← hW6]; exact Only.set (Only.refl' _ ((HN.out.trans HX4.out).trans HX5.out)) rfl _
  have HNB : Hid (bw < w.heap.size ∧ w.heap.size ≤ wr.heap.size ∧ wr.heap.size ≤ w4.heap.size) := ⟨hbwl, HN.out.size, HX4.out.size⟩
  have HR6 : Hid (w6.heap[w4.heap.size]? = some (.cells #[.int .i64 (tlL es lf), .int .i64 (hdL es lf), .slice ua ul uc] 160 (0, 0))) := by unfold Hid; rw [← hW6]; exact (Below.heap_setCell _ _ _ _ (by simp; have := HNB.out; omega)).trans HR5.out
  have HO6 : Hid (OwnI wr.heap.size w6 (.slice ua ul uc) (nums lf)) := by unfold Hid; rw [← hW6]; exact own_store (HO4.out.next HX5.out) (by have := HNB.out; omega) _ _
  have HBA6 : Hid (OwnPt w.heap.size w6 (.slice ba lb.length bc) (lb.map eb)) := by unfold Hid; rw [← hW6]; exact own_store (row_next (row_next HBA.out HX4.out) HX5.out) hbwl _ _
  have HBG : Hid (∀ g, (Value.slice ba lb.length bc).ownBlock = some g → w.heap.size ≤ g ∧ g < wr.heap.size) := fun g hg => own_lt HBA.out g hg
  clear hW6 y2 f2 HX5 HR5 BX5 HO4 HFA HEF
  by_cases hlb : lb = []
  · subst hlb
    go_wp2
    go_end0
    refine ⟨⟨_, rfl⟩, ⟨_, HBX6.out, ?_⟩, HON6.out⟩
    rw [trv_nil HLFE.out HLBE.out]
    exact OwnS.one (by have := HNB.out; omega) HR6.out (HO6.out.base (by have := HNB.out; omega))
  have hlp : 0 < lb.length := List.length_pos_iff.2 hlb
  have HLB : Hid (lb ≠ []) := hlb
  obtain ⟨g, c, hge, hgC, hgm, hRW⟩ := HBA6.out.open (by rw [List.length_map]; exact hlp)
  rw [List.length_map] at hge hgm hRW
  simp only [Value.slice.injEq] at hge
  obtain ⟨rfl, jl, rfl⟩ := hge
  have HGG : Hid (w.heap.size ≤ g ∧ g < wr.heap.size) := HBG.out g rfl
  have HRW : Hid (RWP w6 g lb.length (fun i => (lb.map eb).getD i 0)) := hRW
  generalize hbl : lb.length = bl at *
  have HBLN : Hid (lb.length = bl) := hbl
  have hbl4 : bl ≤ 4000 := HFL.out.2
  clear hRW jl hlb hgm hbl hgC
  have hdg : decide (0 < (bl : Int)) = true := by simp; omega
  go_wp2_with fail
  refine (reverse_any g bl bc _ _ HRW.out (by omega) hlp).mono ?_
  rintro e w7 ⟨⟨rv, rfl⟩, hR7, hO7⟩
  have HON7 : Hid (Only (some bw) w w7) := HON6.out.young hO7 (fun x e => by cases e; exact HGG.out.1)
  have HBX7 : Hid (BT w7 bw #[.int .i64 id, .slice a n cap, .slice (some ⟨w4.heap.size, 0, none⟩) 1 1] 119) := hO7.bt HBX6.out (by intro e; have := Option.some.inj e; have := HNB.out; have := HGG.out; omega)
  have HR7 : Hid (w7.heap[w4.heap.size]? = some (.cells #[.int .i64 (tlL es lf), .int .i64 (hdL es lf), .slice ua ul uc] 160 (0, 0))) := (hO7.block _ (Array.getElem?_eq_some_iff.1 HR6.out).1 (by intro e; have := Option.some.inj e; have := HNB.out; have := HGG.out; omega)).trans HR6.out
  have HO7 : Hid (OwnI wr.heap.size w7 (.slice ua ul uc) (nums lf)) := hO7.own HO6.out (fun x hx e => by have h1 := (own_lt HO6.out x hx).1; have h2 := Option.some.inj e; have := HGG.out; omega)
  have HP7 : Hid (HPtrs w.heap.size w7 (.slice (some ⟨g, 0, none⟩) bl bc) (lb.reverse.map eb)) := hR7.held (by rw [List.length_map, List.length_reverse]; exact HBLN.out) (by unfold maxLen; omega) (fun i hi => by rw [← HBLN.out]; exact rev_getD lb eb (by rw [HBLN.out]; exact hi)) HGG.out.1
  have HE7 : Hid (∀ e ∈ lb.reverse, EB w7 (eb e) e (eat es e)) := fun e he => (HEBK.out e he).on HON7.out (fun h => (HEBK.out e he).ne HBX.out.blk (Option.some.inj h))
  have HZ7 : Hid (w6.heap.size ≤ w7.heap.size) := hO7.size
  have HW47 : Hid (w4.heap.size < w7.heap.size) := (Array.getElem?_eq_some_iff.1 HR7.out).1
  clear hR7 hO7 hdg
  have hmx : Tryz.prog.follows .mixedOrders = true := by kernel_rfl
  have x2 := HBX7.out.blk.cell (i := 2) rfl
  go_upto_region 11 with fail
  refine (wpIn_wide (n := 9)).1 ?_
  have HS0 : Hid ((fun w => w.cell? ⟨bw, 2, none⟩ = some (.slice (some ⟨w4.heap.size, 0, none⟩) 1 1)) w7.drew) := x2
  refine wpIn_region_S (c := 11) (S := fun w => w.cell? ⟨bw, 2, none⟩ = some (.slice (some ⟨w4.heap.size, 0, none⟩) 1 1)) hmx (by kernel_rfl) (fun hw hcl => ?_)
  refine anyS_take (i := 0) (v := .pointer (some ⟨bw, 0, none⟩)) hw (by decide) hcl (noDefer_none rfl) rfl (by kernel_rfl) (by kernel_rfl) (by kernel_rfl) (fun _ _ _ h => h) ⟨Or.inl ⟨by rfl, ?y0⟩, fun _ => rfl⟩ HS0.out (fun hcl => ?_)
  case y0 =>
    rintro w c1
    go_simp
  refine anyS_take (i := 1) (v := .pointer (some ⟨bw, 0, none⟩)) hw (by decide) hcl (noDefer_none rfl) rfl (by kernel_rfl) (by kernel_rfl) (by kernel_rfl) (fun _ _ _ h => h) ⟨Or.inl ⟨by rfl, ?y1⟩, fun _ => rfl⟩ HS0.out (fun hcl => ?_)
  case y1 =>
    rintro w c1
    go_simp
  refine anyS_take (i := 2) (v := .pointer (some ⟨bw, 0, none⟩)) hw (by decide) hcl (noDefer_none rfl) rfl (by kernel_rfl) (by kernel_rfl) (by kernel_rfl) (fun _ _ _ h => h) ⟨Or.inl ⟨by rfl, ?y2⟩, fun _ => rfl⟩ HS0.out (fun hcl => ?_)
  case y2 =>
    rintro w c1
    go_simp
  refine anyS_take (i := 3) (v := .pointer (some ⟨bw, 2, none⟩)) hw (by decide) hcl (noDefer_none rfl) rfl (by kernel_rfl) (by kernel_rfl) (by kernel_rfl) (fun _ _ _ h => h) ⟨Or.inl ⟨by rfl, ?y3⟩, fun _ => rfl⟩ HS0.out (fun hcl => ?_)
  case y3 =>
    rintro w c1
    go_simp
  refine anyS_take (i := 4) (v := .slice (some ⟨w4.heap.size, 0, none⟩) 1 1) hw (by decide) hcl (noDefer_none rfl) rfl (by kernel_rfl) (by kernel_rfl) (by kernel_rfl) (fun _ _ _ h => h) ⟨Or.inl ⟨by rfl, ?y4⟩, fun _ => rfl⟩ HS0.out (fun hcl => ?_)
  case y4 =>
    rintro w c1
    go_simp
  refine anyS_take (i := 5) (v := .slice (some ⟨g, 0, none⟩) bl bc) hw (by decide) hcl (noDefer_none rfl) rfl (by kernel_rfl) (by kernel_rfl) (by kernel_rfl) (fun _ _ _ h => h) ⟨Or.inl ⟨by rfl, ?y5⟩, fun _ => rfl⟩ HS0.out (fun hcl => ?_)
  case y5 =>
    rintro w c1
    go_simp
  refine anyS_one (i := 6) (by kernel_rfl) (wpOpIn_step rfl (fun K hK => ?_))
  go_simp
  refine ⟨trivial, (callsIn_wide.2 (stretchOf_any w.heap.size _ es eb lb.reverse _ (by exact HP7.out) (by simpa using HLB.out) (by rw [List.length_reverse, HBLN.out]; exact hbl4) (fun e he => (HE7.out e he).next (show Nx w7 w7.drew from (Below.refl _ _).drew)))).mono ?_⟩
  rintro e w8 ⟨⟨u8, rfl, hO8⟩, hx8⟩
  have HX8 : Hid (Nx w7 w8) := (show Nx w7 w7.drew from (Below.refl _ _).drew).trans hx8
  have HO8 : Hid (OwnI w7.heap.size w8 u8 (nums lb.reverse)) := hO8
  obtain ⟨ua8, uc8, hu8⟩ := hO8.slice
  generalize (nums lb.reverse).length = ul8 at hu8
  subst hu8
  have HBX8 : Hid (BT w8 bw #[.int .i64 id, .slice a n cap, .slice (some ⟨w4.heap.size, 0, none⟩) 1 1] 119) := HBX7.out.next HX8.out
  have HR8 : Hid (w8.heap[w4.heap.size]? = some (.cells #[.int .i64 (tlL es lf), .int .i64 (hdL es lf), .slice ua ul uc] 160 (0, 0))) := (HX8.out.block _ HW47.out).trans HR7.out
  have HROW8 : Hid (w8.ownsRow w.heap.size 160 3 (.slice (some ⟨w4.heap.size, 0, none⟩) 1 1) 1 [.int .i64 (tlL es lf), .int .i64 (hdL es lf), .slice ua ul uc]) := ⟨rfl, Or.inr ⟨w4.heap.size, 1, _, rfl, by have := HNB.out; omega, HR8.out, Nat.le_refl _, by simp [maxLen], by simp, by simp⟩⟩
  have HO8F : Hid (OwnI wr.heap.size w8 (.slice ua ul uc) (nums lf)) := HO7.out.next HX8.out
  have HON8 : Hid (Only (some bw) w w8) := HON7.out.tr (Only.refl' _ HX8.out)
  have HZ8 : Hid (w7.heap.size ≤ w8.heap.size) := HX8.out.size
  have x8 := HBX8.out.blk.cell (i := 2) rfl
  refine hK _ _ ⟨Or.inr x8, ?_⟩
  clear hK K hO8 hx8 x2
  refine anyS_one (i := 7) (by kernel_rfl) (wpOpIn_step rfl (fun K hK => ?_))
  go_simp
  refine hK _ _ ⟨Or.inr (cellq (box1 _ _) x8), ?_⟩
  clear hK K
  refine anyS_one (i := 8) (by kernel_rfl) (wpOpIn_step rfl (fun K hK => ?_))
  refine step_append_in rfl (.tmp 44) (.tmp 47) 117 rfl 160 iS (.agg #[.int .i64 0, .int .i64 0, .slice none 0 0]) 3 40 Tryz.underlying117 hiS hs0 hs1 hs2 rfl (by decide) w.heap.size (.slice (some ⟨w4.heap.size, 0, none⟩) 1 1) _ _ (by simp [Act.eval]) (show (w8.alloc (.cells #[.int .i64 (tlL es lb.reverse), .int .i64 (hdL es lb.reverse), .slice ua8 ul8 uc8] 160)).ownsRow _ _ _ _ _ _ from World.ownsRow.alloc HROW8.out _) ⟨w8.heap.size, 0, none⟩ 1 1 [.int .i64 (tlL es lb.reverse), .int .i64 (hdL es lb.reverse), .slice ua8 ul8 uc8] (by simp [Act.eval]) rfl (fun j u hj => new_cells w8 _ _ _ rfl j u hj) (by intro u hu; simp at hu; rcases hu with rfl | rfl | rfl <;> rfl) (by unfold maxLen; omega) (by omega) (by rw [size_alloc']; have := HNB.out; have := HW47.out; have := HZ8.out; omega) ?_
  intro v9 w9 hown hgrow hat9
  have HV9 : Hid (OwnS w.heap.size w.heap.size (w9.setCell ⟨bw, 2, none⟩ v9) v9 es [lf, lb.reverse]) := ⟨[.slice ua ul uc, .slice ua8 ul8 uc8], rfl, own_store hown hbwl _ _, fun i hi => by
    have h2 : i < 2 := hi
    have k1 : OwnI wr.heap.size w9 (.slice ua ul uc) (nums lf) := World.ownsRow.kept (World.ownsRow.alloc HO8F.out _) hgrow (by
      rcases Option.eq_none_or_eq_some (Value.slice ua ul uc).ownBlock with h | ⟨g, h⟩
      · exact Or.inl h
      · exact Or.inr (fun e => by have e2 := HUG.out g h; rw [h] at e; have e3 : g = w4.heap.size := Option.some.inj e; omega))
    have k2 : OwnI w7.heap.size w9 (.slice ua8 ul8 uc8) (nums lb.reverse) := World.ownsRow.kept (World.ownsRow.alloc HO8.out _) hgrow (by
      rcases Option.eq_none_or_eq_some (Value.slice ua8 ul8 uc8).ownBlock with h | ⟨g, h⟩
      · exact Or.inl h
      · exact Or.inr (fun e => by have e2 := (own_lt HO8.out g h).1; rw [h] at e; have e3 : g = w4.heap.size := Option.some.inj e; have := HW47.out; omega))
    match i, h2 with
    | 0, _ => exact own_store (k1.base (by have := HNB.out; omega)) hbwl _ _
    | 1, _ => exact own_store (k2.base (by have := HNB.out; have := HW47.out; omega)) hbwl _ _⟩
  have HBX9 : Hid (BT w9 bw #[.int .i64 id, .slice a n cap, .slice (some ⟨w4.heap.size, 0, none⟩) 1 1] 119) := (HBX8.out.alloc _).grown hgrow (fun e => by have e2 : bw = w4.heap.size := Option.some.inj e; have := HNB.out; omega)
  have HON9 : Hid (Only (some bw) w (w9.setCell ⟨bw, 2, none⟩ v9)) := Only.set ((HON8.out.tr (Only.refl' _ (box1 _ _))).young (p := some w4.heap.size) ⟨hgrow.os, hgrow.tape, hgrow.output, hgrow.size, hgrow.block⟩ (fun x e => by cases e; have := HNB.out; omega)) rfl _
  have HBXE : Hid (BT (w9.setCell ⟨bw, 2, none⟩ v9) bw #[.int .i64 id, .slice a n cap, v9] 119) := HBX9.out.set 2 _
  have x9 := HBX9.out.blk.cell (i := 2) rfl
  have f9 := HBX9.out.blk.frozen 2
  obtain ⟨a9, c9, hv9⟩ := row_slice hown
  subst hv9
  refine hK _ _ ⟨Or.inr x9, ?_⟩
  clear hK K hown hgrow hat9 x8
  refine anyS_one (i := 9) (by kernel_rfl) (wpOpIn_step rfl (fun K hK => ?_))
  go_simp
  refine hK _ _ ⟨Or.inr x9, ?_⟩
  clear hK K
  refine anyS_one (i := 10) (by kernel_rfl) (wpOpIn_step rfl (fun K hK => ?_))
  go_simp
  refine hK _ _ ⟨Or.inr x9, ?_⟩
  clear hK K
  refine anyS_one (i := 11) (by kernel_rfl) (wpOpIn_step rfl (fun K hK => ?_))
  go_simp
  refine hK _ _ ⟨Or.inl (by decide), ?_⟩
  clear hK K
  refine anyS_done (by kernel_rfl) ?_ _
  clear hw hcl HS0 x9 f9
  go_wp2
  go_end0
  refine ⟨⟨_, rfl⟩, ⟨_, HBXE.out, ?_⟩, HON9.out⟩
  rw [trv_two HLFE.out HLBE.out HLB.out]
  exact HV9.out
end Go.Proofs.YtcdjmpbdaiafgaaGreatDoor
