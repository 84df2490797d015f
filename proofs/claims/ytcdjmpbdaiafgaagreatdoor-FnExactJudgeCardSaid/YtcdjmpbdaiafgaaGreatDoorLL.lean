import Derived.Test.YtcdjmpbdaiafgaaGreatDoorLK
namespace Go.Proofs.YtcdjmpbdaiafgaaGreatDoor
open Go.RowKit Go.Sort Go.Maps Go.Shelf
set_option linter.unusedVariables false
set_option maxRecDepth 100000

theorem map_ck {K : Nat → Prop} {A B : World} {mb n : Nat} {ks : DataW Unit} (h : A.ownsMap Tryz.prog 2 ptrR mb n ks) (k : Ck noX K A B) : B.ownsMap Tryz.prog 2 ptrR mb n ks := by
  obtain ⟨es, clock, h1, r⟩ := h
  exact ⟨es, clock, k.block mb _ h1 id (Or.inr rfl), r⟩
theorem OwnS.ck {K : Nat → Prop} {C D : Nat} {A B : World} {v : Value} {es : List Eg} {ls : List (List Nat)} (h : OwnS C D A v es ls) (k : Ck noX K A B) : OwnS C D B v es ls := by
  obtain ⟨us, hl, hr, hi⟩ := h
  exact ⟨us, hl, row_ck hr k (fun _ _ => id), fun i hlt => row_ck (hi i hlt) k (fun _ _ => id)⟩
theorem LR.ck {K : Nat → Prop} {C : Nat} {N : Nt} {es : List Eg} {kw me mr ma tk : Nat} {A B : World} {L : Lk} (h : LR C N es kw me mr ma tk A L) (c : Ck noX K A B) : LR C N es kw me mr ma tk B L :=
  ⟨h.road.ck c id, h.cr, h.cm, h.cw, h.ce, map_ck h.map c, fun i hi => (h.way i hi).ck c id, fun i hi => row_ck (h.row i hi) c (fun _ _ => id), row_ck h.all c (fun _ _ => id), fun e he => (h.edge e he).ck c id, h.apart, h.apartE, fun i hi => (h.trav i hi).ck c, h.bare⟩
def sxOf (es : List Eg) (l : List Nat) : Sx := ⟨tlL es l, hdL es l, l⟩
theorem sxat_map {es : List Eg} {ls : List (List Nat)} {i : Nat} (hi : i < ls.length) : sxat (ls.map (sxOf es)) i = sxOf es (lsat ls i) := by
  simp [sxat, lsat, List.getD_eq_getElem?_getD, hi]
theorem OwnS.stx {C D : Nat} {w : World} {v : Value} {es : List Eg} {ls : List (List Nat)} (h : OwnS C D w v es ls) : HStx w.heap.size w v (ls.map (sxOf es)) := by
  obtain ⟨us, hl, hr, hi⟩ := h
  obtain ⟨h1, h2⟩ := hr
  rcases h2 with ⟨rfl, h3⟩ | ⟨g, cap, cur, hv, hg, hh, hc, hm, hs, ht⟩
  · exact ⟨none, 0, by simp [h3], by simp [h3], fun hp => by simp [h3] at hp⟩
  · refine ⟨some ⟨g, 0, none⟩, cap, by simpa using hv, by simp; omega, fun _ => ⟨g, 0, rfl, Nat.zero_le _, (Array.getElem?_eq_some_iff.1 hh).1, fun i hlt => ?_⟩⟩
    have hlt' : i < ls.length := by simpa using hlt
    have hz : (ls.zip us)[i]? = some (lsat ls i, vat us i) := by
      rw [List.getElem?_zip_eq_some]
      exact ⟨by simp [lsat, List.getD_eq_getElem?_getD, hlt'], by simp [vat, List.getD, List.getElem?_eq_getElem (show i < us.length by omega)]⟩
    have key : ∀ q, q < 3 → w.cell? ⟨g, 0 + i * 3 + q, none⟩ = (stc es (lsat ls i, vat us i))[q]? := fun q hq => by
      have e1 : (cur.toList.take (ls.length * 3))[i * 3 + q]? = ((ls.zip us).flatMap (stc es))[i * 3 + q]? := by rw [ht]
      rw [List.getElem?_take_of_lt (by omega), Array.getElem?_toList] at e1
      rw [flat3 (ls.zip us) (stc es) (fun _ => rfl) i q hq _ hz] at e1
      have hlt : i * 3 + q < cur.size := by omega
      rw [Nat.zero_add]
      simp only [World.cell?, hh, e1]
      rfl
    simp only []
    rw [sxat_map hlt']
    have ho := hi i hlt'
    exact ⟨vat us i, key 0 (by omega), key 1 (by omega), key 2 (by omega), (OwnI.base ho (Nat.zero_le _)).held, fun g hg => (own_lt ho g hg).2, ho.capOk⟩
theorem HStx.ckX {X K : Nat → Prop} {z : Nat} {A B : World} {v : Value} {xs : List Sx} (h : HStx z A v xs) (c : Ck X K A B) (hx : ∀ b, X b → z ≤ b) (hv : ∀ g, v.ownBlock = some g → ¬ X g) : HStx z B v xs := by
  obtain ⟨a, cap, rfl, hm, hk⟩ := h
  refine ⟨a, cap, rfl, hm, fun hp => ?_⟩
  obtain ⟨b, off, rfl, h0, hb, hc⟩ := hk hp
  have nb : ¬ X b := hv b rfl
  refine ⟨b, off, rfl, h0, Nat.lt_of_lt_of_le hb c.size, fun i hi => ?_⟩
  obtain ⟨u, z0, z1, z2, hu, hl, hcp⟩ := hc i hi
  exact ⟨u, cell_ckX c nb z0, cell_ckX c nb z1, cell_ckX c nb z2, hu.ckX c (fun g hg x => by have := hx g x; have := hl g hg; omega), hl, hcp⟩
theorem HStx.ck {K : Nat → Prop} {z : Nat} {A B : World} {v : Value} {xs : List Sx} (h : HStx z A v xs) (c : Ck noX K A B) : HStx z B v xs := h.ckX c (fun _ x => x.elim) (fun _ _ => id)
/-- a function value gives these stretches: in every world that comes by turning what lies from z to c -/
def Fd (z c : Nat) (M : List Sx) (fv : Value) (w : World) : Prop := ∃ gf lb Inv, fv = .func (.func gf) #[] lb ∧ Gives Tryz.prog gf lb (PyS z M) z M.length Inv ∧ (∀ args w, (callFunc gf args).run Tryz.prog w = .ok (.enter gf args) w) ∧ ∀ (X : Nat → Prop) B, (∀ b, X b → z ≤ b ∧ b < c) → Ck X noX w B → Inv B
theorem Fd.next {z c : Nat} {M : List Sx} {fv : Value} {w w' : World} (h : Fd z c M fv w) (k : Nx w w') : Fd z c M fv w' := by
  obtain ⟨gf, lb, Inv, h1, h2, h3, h4⟩ := h
  exact ⟨gf, lb, Inv, h1, h2, h3, fun X B hX hc => h4 X B hX ((Ck.nx k).trans hc)⟩
theorem Fd.values {z c : Nat} {M : List Sx} {a : Option Addr} {n cp : Nat} {w : World} (h : HStx z w (.slice a n cp) M) (hv : ∀ g, (Value.slice a n cp).ownBlock = some g → g < z ∨ c ≤ g) (hc : c ≤ w.heap.size) :
    Fd z c M (.func (.func 127) #[] #[.pointer (some ⟨w.heap.size, 0, none⟩)]) (w.alloc (.cells #[.slice a n cp] 117)) := by
  refine ⟨_, _, InvV z w.heap.size (.slice a n cp) M, rfl, values_gives z w.heap.size _ M, fun _ _ => rfl, fun X B hX hk => ⟨?_, ?_⟩⟩
  · exact ((BT.new w #[.slice a n cp] 117 _ rfl).ck hk (fun x => by have := (hX _ x).2; omega)).blk.cell (i := 0) rfl
  · exact h.ckX ((Ck.nx (box1 _ _)).trans hk) (fun b x => (hX b x).1) (fun g hg x => by have := hX g x; rcases hv g hg with q | q <;> omega)
set_option maxHeartbeats 2000000 in
theorem extend_any (gf : Nat) (lb : Array Value) (a : Option Addr) (n c : Nat) (w : World) :
    Calls Tryz.prog 122 #[.func (.func gf) #[] lb, .slice a n c] w fun e w' => e = .returned (.func (.func 128) #[] #[.pointer (some ⟨w.heap.size, 0, none⟩), .pointer (some ⟨w.heap.size + 1, 0, none⟩)]) ∧ w' = (w.alloc (.cells #[.func (.func gf) #[] lb] 165)).alloc (.cells #[.slice a n c] 117) := by
  have hmf : ∀ (fn : Fn) (first cap : Array Value) (w : World), (Instr.makeFunc fn first cap).run Tryz.prog w = .ok (.func fn first cap) w := fun _ _ _ _ => rfl
  go_enter Tryz.func122, Tryz.ntmps122
  go_wp2
  go_ret
  exact ⟨rfl, rfl⟩
theorem Fd.ext {z c : Nat} {M ys : List Sx} {gf : Nat} {lb : Array Value} {a : Option Addr} {n cp : Nat} {w : World} (h0 : Fd z c M (.func (.func gf) #[] lb) w) (hLen : ∀ k j, k < M.length → j < ys.length → 0 < (nums (sxat M k).l ++ nums (sxat ys j).l).length ∧ (nums (sxat M k).l ++ nums (sxat ys j).l).length ≤ 1000000)
    (h : HStx z w (.slice a n cp) ys) (hv : ∀ g, (Value.slice a n cp).ownBlock = some g → g < z ∨ c ≤ g) (hc : c ≤ w.heap.size) :
    Fd z c (exts M ys) (.func (.func 128) #[] #[.pointer (some ⟨w.heap.size, 0, none⟩), .pointer (some ⟨w.heap.size + 1, 0, none⟩)]) ((w.alloc (.cells #[.func (.func gf) #[] lb] 165)).alloc (.cells #[.slice a n cp] 117)) := by
  obtain ⟨gf', lb', InvB, e, h1, h2, h3⟩ := h0
  simp only [Value.func.injEq, Fn.func.injEq, true_and] at e
  obtain ⟨rfl, rfl⟩ := e
  refine ⟨_, _, InvE z w.heap.size (w.heap.size + 1) gf lb (.slice a n cp) ys InvB, rfl, fun X l m J Jx W hX hInv hJ hJx hY h0 => extend1_in z _ _ gf lb _ M ys hLen InvB h1 h2 X l m J Jx W hX hInv hJ hJx hY h0, fun _ _ => rfl, fun X B hX hk => ?_⟩
  have nx : ∀ b, c ≤ b → ¬ X b := fun b q x => by have := (hX _ x).2; omega
  have hk' : Ck X noX w B := ((Ck.nx (box1 _ _)).trans (Ck.nx (box1 _ _))).trans hk
  refine ⟨?_, ?_, ?_, h3 X B hX hk'⟩
  · exact (((BT.new w #[.func (.func gf) #[] lb] 165 _ rfl).alloc _).ck hk (nx _ hc)).blk.cell (i := 0) rfl
  · exact ((BT.new (w.alloc (.cells #[.func (.func gf) #[] lb] 165)) #[.slice a n cp] 117 _ (by simp)).ck hk (nx _ (by omega))).blk.cell (i := 0) rfl
  · exact h.ckX hk' (fun b x => (hX b x).1) (fun g hg x => by have := hX g x; rcases hv g hg with q | q <;> omega)
end Go.Proofs.YtcdjmpbdaiafgaaGreatDoor

namespace Go.Proofs.YtcdjmpbdaiafgaaGreatDoor
open Go.RowKit Go.Sort Go.Maps Go.Shelf
set_option linter.unusedVariables false
set_option maxRecDepth 100000

theorem mkHid {p : Prop} (h : p) : Hid p := h
theorem exts_sx {es : List Eg} {A B : List (List Nat)} (hA : ∀ l ∈ A, l ≠ []) (hB : ∀ p ∈ B, p ≠ []) : exts (A.map (sxOf es)) (B.map (sxOf es)) = (growL es A B).map (sxOf es) := by
  unfold exts growL
  rw [List.flatMap_map, List.map_flatMap]
  refine fm_congr (fun l hl => ?_)
  unfold extOf
  rw [List.filter_map, List.map_map, List.map_map]
  refine List.map_congr_left (fun p hp => ?_)
  have hp' : p ∈ B := (List.mem_filter.1 hp).1
  simp only [Function.comp, joinS, sxOf]
  rw [tlL_app es (hA l hl), hdL_app es (hB p hp')]
/-- the lists of edges between the first edge and the last -/
def midL (N : Nt) (r : Rl) : Nat → List (List Nat)
  | 0 => travs N (E1 N) (wpos N.ways (iat r.ways 0))
  | k + 1 => growL (E1 N) (midL N r k) (travs N (E1 N) (wpos N.ways (iat r.ways (k + 1))))
def midS (N : Nt) (r : Rl) : List Sx := if r.via then [⟨pos N.nodes r.node, pos N.nodes r.node, []⟩] else (midL N r (r.ways.length - 1)).map (sxOf (E1 N))
/-- what a good relation is like -/
structure RelG (N : Nt) (r : Rl) : Prop where
  frm : hasW N.ways r.frm = true
  dst : hasW N.ways r.to = true
  node : r.via = true → hasI N.nodes r.node = true
  one : r.via = false → 1 ≤ r.ways.length ∧ r.ways.length ≤ 4
  ways : r.via = false → ∀ k, k < r.ways.length → hasW N.ways (iat r.ways k) = true
theorem rel_g {N : Nt} {r : Rl} (h : relGood N r = true) : RelG N r := by
  simp only [relGood, Bool.and_eq_true] at h
  obtain ⟨_, hf, ht, hT⟩ := h
  unfold relTail at hT
  refine ⟨hf, ht, fun e => ?_, fun e => ?_, fun e k hk => ?_⟩
  · rw [if_pos e] at hT
    simp only [Bool.and_eq_true] at hT
    exact hT.2
  · rw [if_neg (by simp [e])] at hT
    simp only [Bool.and_eq_true, decide_eq_true_eq] at hT
    exact ⟨hT.2.1, hT.2.2.1⟩
  · rw [if_neg (by simp [e])] at hT
    simp only [Bool.and_eq_true, decide_eq_true_eq] at hT
    exact allN_at hT.2.2.2 hk
theorem E1_le' {N : Nt} (hv : implValid N = true) : (E1 N).length ≤ 4000 := E1_le (road_in hv)
theorem midL_good {N : Nt} {r : Rl} (hv : implValid N = true) (hg : RelG N r) (hvia : r.via = false) : ∀ k, k < r.ways.length → ∀ l ∈ midL N r k, goodL (E1 N).length l ∧ l.length ≤ 4000 * (k + 1)
  | 0, hk => by
    have hw := wpos_lt (hg.ways hvia 0 hk)
    have he := edge_there (road_in hv) (rels_in hv) hw
    intro l hl
    exact travs_good (E1_le' hv) he.1 he.2 l hl
  | k + 1, hk => by
    have hw := wpos_lt (hg.ways hvia (k + 1) hk)
    have he := edge_there (road_in hv) (rels_in hv) hw
    have hl4 := (hg.one hvia).2
    intro l hl
    exact growL_good (midL_good hv hg hvia k (by omega)) (travs_good (E1_le' hv) he.1 he.2) (by omega) l hl
theorem sx_mem {es : List Eg} {A : List (List Nat)} {k : Nat} (hk : k < (A.map (sxOf es)).length) : ∃ l ∈ A, sxat (A.map (sxOf es)) k = sxOf es l := by
  have hk' : k < A.length := by simpa using hk
  exact ⟨lsat A k, by simp [lsat, List.getD_eq_getElem?_getD, hk'], sxat_map hk'⟩
theorem mid_len {N : Nt} {r : Rl} (hv : implValid N = true) (hg : RelG N r) (hvia : r.via = false) {k : Nat} (hk : k + 1 < r.ways.length) : ∀ a c, a < ((midL N r k).map (sxOf (E1 N))).length → c < ((travs N (E1 N) (wpos N.ways (iat r.ways (k + 1)))).map (sxOf (E1 N))).length → 0 < (nums (sxat ((midL N r k).map (sxOf (E1 N))) a).l ++ nums (sxat ((travs N (E1 N) (wpos N.ways (iat r.ways (k + 1)))).map (sxOf (E1 N))) c).l).length ∧ (nums (sxat ((midL N r k).map (sxOf (E1 N))) a).l ++ nums (sxat ((travs N (E1 N) (wpos N.ways (iat r.ways (k + 1)))).map (sxOf (E1 N))) c).l).length ≤ 1000000 := by
  intro a c ha hc
  obtain ⟨l, hl, el⟩ := sx_mem ha
  obtain ⟨p, hp, ep⟩ := sx_mem hc
  have h1 := midL_good hv hg hvia k (by omega) l hl
  have he := edge_there (road_in hv) (rels_in hv) (wpos_lt (hg.ways hvia (k + 1) hk))
  have h2 := travs_good (E1_le' hv) he.1 he.2 p hp
  have h4 := (hg.one hvia).2
  have hl0 : 0 < l.length := List.length_pos_iff.2 h1.1.1
  rw [el, ep]
  simp only [sxOf, List.length_append, nums_len]
  omega
theorem mid_ext {N : Nt} {r : Rl} (hv : implValid N = true) (hg : RelG N r) (hvia : r.via = false) {k : Nat} (hk : k + 1 < r.ways.length) : (midL N r (k + 1)).map (sxOf (E1 N)) = exts ((midL N r k).map (sxOf (E1 N))) ((travs N (E1 N) (wpos N.ways (iat r.ways (k + 1)))).map (sxOf (E1 N))) := by
  have he := edge_there (road_in hv) (rels_in hv) (wpos_lt (hg.ways hvia (k + 1) hk))
  rw [exts_sx (fun l hl => (midL_good hv hg hvia k (by omega) l hl).1.1) (fun p hp => (travs_good (E1_le' hv) he.1 he.2 p hp).1.1)]
  rfl
/-- where a way's traversals lie -/
theorem LR.ways {C : Nat} {N : Nt} {w : World} {L : Lk} {m : Nat} (h : LR C N (E1 N) N.ways.length m m m N.ways.length w L) (hv : implValid N = true) (hm : m = (E1 N).length) {id : Int} (hid : hasW N.ways id = true) :
    (Instr.lookup 112 (.map (some L.bm)) (.int .i64 id) false).run Tryz.prog w = .ok (.pointer (some ⟨L.wb (wpos N.ways id), 0, none⟩)) w ∧ HStx w.heap.size w (L.ts (wpos N.ways id)) ((travs N (E1 N) (wpos N.ways id)).map (sxOf (E1 N))) := by
  subst hm
  have hp := wpos_lt hid
  have hk := lk_in hv
  have hi := wpos_id hid
  refine ⟨?_, ?_⟩
  · have := wkids_of (N := N) (wb := L.wb) hp (hk.inj (Nat.le_refl _))
    rw [hi] at this
    exact map_look h.map (by rw [← hi]; exact hk.wf _ hp) this
  · rw [← trv_travs hv hp]
    exact (h.trav _ hp).stx

theorem OwnS.lt {C D : Nat} {w : World} {v : Value} {es : List Eg} {ls : List (List Nat)} (h : OwnS C D w v es ls) : ∀ g, v.ownBlock = some g → g < w.heap.size := fun g hg => by
  obtain ⟨us, _, hr, _⟩ := h
  exact (own_lt hr g hg).2
theorem HStx.next {z : Nat} {A B : World} {v : Value} {xs : List Sx} (h : HStx z A v xs) (k : Nx A B) : HStx z B v xs := h.ck (Ck.nx (K := noX) k)
theorem BT.next' {A B : World} {b t : Nat} {cs : Array Value} (h : BT A b cs t) (k : Nx A B) : BT B b cs t := h.ck (Ck.nx (X := noX) (K := noX) k) id
theorem one_stx {z g t : Nat} {w : World} {x : Int} (h : BT w g #[.int .i64 x, .int .i64 x, .slice none 0 0] t) : HStx z w (.slice (some ⟨g, 0, none⟩) 1 1) [⟨x, x, []⟩] := by
  refine ⟨_, _, rfl, by simp [maxLen], fun _ => ⟨g, 0, rfl, Nat.zero_le _, h.lt, fun i hi => ?_⟩⟩
  have hi0 : i = 0 := by simpa using hi
  subst hi0
  exact ⟨.slice none 0 0, h.blk.cell (i := 0) rfl, h.blk.cell (i := 1) rfl, h.blk.cell (i := 2) rfl, ⟨none, 0, rfl, by simp [nums, sxat], fun hp => by simp [nums, sxat] at hp⟩, fun g hg => by simp [Value.ownBlock] at hg, ⟨_, _, _, rfl, Nat.le_refl _⟩⟩
set_option maxHeartbeats 8000000 in
theorem middles_any (C B : Nat) (N : Nt) (L : Lk) (wR : World) (r : Rl) (vw : Value) (w : World) (hv : implValid N = true) (hR : LR C N (E1 N) N.ways.length (E1 N).length (E1 N).length (E1 N).length N.ways.length wR L) (hk : Ck noX noX wR w) (h0 : HInts B w L.v0 N.nodes) (hw : HInts B w vw r.ways) (hg : RelG N r) (hcp : CapOk vw) :
    Calls Tryz.prog 106 #[.pointer (some ⟨L.br, 0, none⟩), .agg #[.int .i64 r.id, .bool r.only, .int .i64 r.frm, .int .i64 r.to, .bool r.via, .int .i64 r.node, vw]] w fun e w' => (∃ fv, e = .returned fv ∧ Fd wR.heap.size w.heap.size (midS N r) fv w') ∧ Nx w w' := by
  have HV : Hid (implValid N = true) := hv
  have HR : Hid (LR C N (E1 N) N.ways.length (E1 N).length (E1 N).length (E1 N).length N.ways.length wR L) := hR
  have HK : Hid (Ck noX noX wR w) := hk
  have H0 : Hid (HInts B w L.v0 N.nodes) := h0
  have HG : Hid (RelG N r) := hg
  have HCP : Hid (CapOk vw) := hcp
  have HW : Hid (HInts B w vw r.ways) := hw
  have hmx : Tryz.prog.follows .mixedOrders = true := by kernel_rfl
  obtain ⟨wa, wc, rfl, hwm, hwk⟩ := hw
  unfold maxLen at hwm
  generalize hnw : r.ways.length = nw at *
  have HNW : Hid (r.ways.length = nw) := hnw
  clear hv hR hk h0 hg hwk hnw hcp
  go_enter Tryz.func106, Tryz.ntmps106
  cases hvia : r.via
  · -- via ways
    have HVIA : Hid (r.via = false) := hvia
    have HONE : Hid (1 ≤ nw ∧ nw ≤ 4) := by have := HG.out.one hvia; rw [HNW.out] at this; exact this
    have HWS : Hid (∀ k, k < nw → hasW N.ways (iat r.ways k) = true) := by have := HG.out.ways hvia; rw [HNW.out] at this; exact this
    go_upto_region 4 with fail
    clear hvia
    generalize hW0 : w.alloc (.cells #[.int .i64 r.id, .bool r.only, .int .i64 r.frm, .int .i64 r.to, .bool false, .int .i64 r.node, .slice wa nw wc] 93) = w0
    have HX0 : Hid (Nx w w0) := by unfold Hid; rw [← hW0]; exact box1 _ _
    have HB0 : Hid (BT w0 w.heap.size #[.int .i64 r.id, .bool r.only, .int .i64 r.frm, .int .i64 r.to, .bool false, .int .i64 r.node, .slice wa nw wc] 93) := by unfold Hid; rw [← hW0]; exact BT.new _ _ _ _ rfl
    have HZ0 : Hid (w.heap.size < w0.heap.size) := HB0.out.lt
    have HLR : Hid (LR C N (E1 N) N.ways.length (E1 N).length (E1 N).length (E1 N).length N.ways.length w0 L) := (HR.out.ck HK.out).next HX0.out
    have HKW : Hid (Ck noX noX wR w0) := HK.out.trans (Ck.nx HX0.out)
    have HWK : Hid (HInts B w0 (.slice wa nw wc) r.ways) := HW.out.next HX0.out
    clear hW0
    obtain ⟨wa', wc', hse, _, hwk⟩ := HWK.out
    have hn1 := HONE.out.1
    obtain ⟨wb, wo, rfl, _, _, hwc⟩ := hwk (by rw [HNW.out]; omega)
    simp only [Value.slice.injEq] at hse
    obtain ⟨rfl, hzz, rfl⟩ := hse
    clear hzz
    have hwc0 := hwc 0 (by rw [HNW.out]; omega)
    obtain ⟨hlk, hst⟩ := HLR.out.ways HV.out rfl (HWS.out 0 (by omega))
    have hst' := (HR.out.ways HV.out rfl (HWS.out 0 (by omega))).2.ck HKW.out
    have hp0 := wpos_lt (HWS.out 0 (by omega))
    have hwy := HLR.out.way _ hp0
    generalize hp : wpos N.ways (iat r.ways 0) = p0 at *
    have HP0 : Hid (wpos N.ways (iat r.ways 0) = p0) := hp
    have HTS : Hid (HStx wR.heap.size w0 (L.ts p0) ((travs N (E1 N) p0).map (sxOf (E1 N)))) := hst'
    obtain ⟨ta, tc, hte, _, _⟩ := hst'
    generalize htn : ((travs N (E1 N) p0).map (sxOf (E1 N))).length = tn at *
    have HTN : Hid (((travs N (E1 N) p0).map (sxOf (E1 N))).length = tn) := htn
    have HTE : Hid (L.ts p0 = .slice ta tn tc) := hte
    have hlk' : (Instr.lookup 112 (.map (some L.bm)) (.int .i64 (iat r.ways 0)) false).run Tryz.prog w0.drew = .ok (.pointer (some ⟨L.wb p0, 0, none⟩)) w0.drew := by
      have := ((HLR.out.next (show Nx w0 w0.drew from (Below.refl _ _).drew)).ways HV.out rfl (HWS.out 0 (by omega))).1
      rw [HP0.out] at this
      exact this
    have HSS : Hid ((fun q => q.cell? ⟨L.br, 6, none⟩ = some (.map (some L.bm)) ∧ q.cell? ⟨w.heap.size, 6, none⟩ = some (.slice (some ⟨wb, wo, none⟩) nw wc) ∧ q.cell? ⟨wb, wo, none⟩ = some (.int .i64 (iat r.ways 0)) ∧ (Instr.lookup 112 (.map (some L.bm)) (.int .i64 (iat r.ways 0)) false).run Tryz.prog q = .ok (.pointer (some ⟨L.wb p0, 0, none⟩)) q ∧ q.cell? ⟨L.wb p0, 2, none⟩ = some (.slice ta tn tc)) w0.drew) := ⟨HLR.out.road.blk.cell (i := 6) rfl, HB0.out.blk.cell (i := 6) rfl, hwc0, hlk', by have := hwy.blk.cell (i := 2) rfl; rw [hte] at this; exact this⟩
    clear hlk hlk' hst hp0 hwy hp hte htn hwc0 hwc hwk
    refine (wpIn_wide (n := 9)).1 ?_
    refine wpIn_region_S (c := 12) (S := fun q => q.cell? ⟨L.br, 6, none⟩ = some (.map (some L.bm)) ∧ q.cell? ⟨w.heap.size, 6, none⟩ = some (.slice (some ⟨wb, wo, none⟩) nw wc) ∧ q.cell? ⟨wb, wo, none⟩ = some (.int .i64 (iat r.ways 0)) ∧ (Instr.lookup 112 (.map (some L.bm)) (.int .i64 (iat r.ways 0)) false).run Tryz.prog q = .ok (.pointer (some ⟨L.wb p0, 0, none⟩)) q ∧ q.cell? ⟨L.wb p0, 2, none⟩ = some (.slice ta tn tc)) hmx (by kernel_rfl) (fun hw hcl => ?_)
    refine anyS_take (i := 0) (v := .pointer (some ⟨L.br, 0, none⟩)) hw (by decide) hcl (noDefer_none rfl) rfl (by kernel_rfl) (by kernel_rfl) (by kernel_rfl) (fun _ _ _ h => h) ⟨Or.inl ⟨by kernel_rfl, ?y0⟩, fun _ => rfl⟩ HSS.out (fun hcl => ?_)
    case y0 =>
      rintro q ⟨c1, c2, c3, c4, c5⟩
      go_simp
    refine anyS_take (i := 1) (v := .pointer (some ⟨L.br, 0, none⟩)) hw (by decide) hcl (noDefer_none rfl) rfl (by kernel_rfl) (by kernel_rfl) (by kernel_rfl) (fun _ _ _ h => h) ⟨Or.inl ⟨by kernel_rfl, ?y1⟩, fun _ => rfl⟩ HSS.out (fun hcl => ?_)
    case y1 =>
      rintro q ⟨c1, c2, c3, c4, c5⟩
      go_simp
    refine anyS_take (i := 2) (v := .pointer (some ⟨L.br, 6, none⟩)) hw (by decide) hcl (noDefer_none rfl) rfl (by kernel_rfl) (by kernel_rfl) (by kernel_rfl) (fun _ _ _ h => h) ⟨Or.inl ⟨by kernel_rfl, ?y2⟩, fun _ => rfl⟩ HSS.out (fun hcl => ?_)
    case y2 =>
      rintro q ⟨c1, c2, c3, c4, c5⟩
      go_simp
    refine anyS_take (i := 3) (v := .map (some L.bm)) hw (by decide) hcl (noDefer_none rfl) rfl (by kernel_rfl) (by kernel_rfl) (by kernel_rfl) (fun _ _ _ h => h) ⟨Or.inl ⟨by kernel_rfl, ?y3⟩, fun _ => rfl⟩ HSS.out (fun hcl => ?_)
    case y3 =>
      rintro q ⟨c1, c2, c3, c4, c5⟩
      go_simp
    refine anyS_take (i := 4) (v := .pointer (some ⟨w.heap.size, 6, none⟩)) hw (by decide) hcl (noDefer_none rfl) rfl (by kernel_rfl) (by kernel_rfl) (by kernel_rfl) (fun _ _ _ h => h) ⟨Or.inl ⟨by kernel_rfl, ?y4⟩, fun _ => rfl⟩ HSS.out (fun hcl => ?_)
    case y4 =>
      rintro q ⟨c1, c2, c3, c4, c5⟩
      go_simp
    refine anyS_take (i := 5) (v := .slice (some ⟨wb, wo, none⟩) nw wc) hw (by decide) hcl (noDefer_none rfl) rfl (by kernel_rfl) (by kernel_rfl) (by kernel_rfl) (fun _ _ _ h => h) ⟨Or.inl ⟨by kernel_rfl, ?y5⟩, fun _ => rfl⟩ HSS.out (fun hcl => ?_)
    case y5 =>
      rintro q ⟨c1, c2, c3, c4, c5⟩
      go_simp
    refine anyS_take (i := 6) (v := .pointer (some ⟨wb, wo, none⟩)) hw (by decide) hcl (noDefer_none rfl) rfl (by kernel_rfl) (by kernel_rfl) (by kernel_rfl) (fun _ _ _ h => h) ⟨Or.inl ⟨by kernel_rfl, ?y6⟩, fun _ => rfl⟩ HSS.out (fun hcl => ?_)
    case y6 =>
      rintro q ⟨c1, c2, c3, c4, c5⟩
      go_simp
      try (intro h; omega)
    refine anyS_take (i := 7) (v := .int .i64 (iat r.ways 0)) hw (by decide) hcl (noDefer_none rfl) rfl (by kernel_rfl) (by kernel_rfl) (by kernel_rfl) (fun _ _ _ h => h) ⟨Or.inl ⟨by kernel_rfl, ?y7⟩, fun _ => rfl⟩ HSS.out (fun hcl => ?_)
    case y7 =>
      rintro q ⟨c1, c2, c3, c4, c5⟩
      go_simp
    refine anyS_take (i := 8) (v := .pointer (some ⟨L.wb p0, 0, none⟩)) hw (by decide) hcl (noDefer_none rfl) rfl (by kernel_rfl) (by kernel_rfl) (by kernel_rfl) (fun _ _ _ h => h) ⟨Or.inl ⟨by kernel_rfl, ?y8⟩, fun _ => rfl⟩ HSS.out (fun hcl => ?_)
    case y8 =>
      rintro q ⟨c1, c2, c3, c4, c5⟩
      go_simp
    refine anyS_take (i := 9) (v := .pointer (some ⟨L.wb p0, 0, none⟩)) hw (by decide) hcl (noDefer_none rfl) rfl (by kernel_rfl) (by kernel_rfl) (by kernel_rfl) (fun _ _ _ h => h) ⟨Or.inl ⟨by kernel_rfl, ?y9⟩, fun _ => rfl⟩ HSS.out (fun hcl => ?_)
    case y9 =>
      rintro q ⟨c1, c2, c3, c4, c5⟩
      go_simp
    refine anyS_take (i := 10) (v := .pointer (some ⟨L.wb p0, 2, none⟩)) hw (by decide) hcl (noDefer_none rfl) rfl (by kernel_rfl) (by kernel_rfl) (by kernel_rfl) (fun _ _ _ h => h) ⟨Or.inl ⟨by kernel_rfl, ?y10⟩, fun _ => rfl⟩ HSS.out (fun hcl => ?_)
    case y10 =>
      rintro q ⟨c1, c2, c3, c4, c5⟩
      go_simp
    refine anyS_take (i := 11) (v := .slice ta tn tc) hw (by decide) hcl (noDefer_none rfl) rfl (by kernel_rfl) (by kernel_rfl) (by kernel_rfl) (fun _ _ _ h => h) ⟨Or.inl ⟨by kernel_rfl, ?y11⟩, fun _ => rfl⟩ HSS.out (fun hcl => ?_)
    case y11 =>
      rintro q ⟨c1, c2, c3, c4, c5⟩
      go_simp
    refine anyS_one (i := 12) (by kernel_rfl) (wpOpIn_step rfl (fun K hK => ?_))
    go_simp
    refine ⟨trivial, (callsIn_wide.2 (values_any ta tn tc _)).mono ?_⟩
    rintro e w1 ⟨rfl, hw1⟩
    have HX1 : Hid (Nx w0 w1) := by unfold Hid; rw [hw1]; exact ((Below.refl _ _).drew).alloc (Nat.le_refl _) _
    have HF1 : Hid (Fd wR.heap.size w.heap.size ((midL N r 0).map (sxOf (E1 N))) (.func (.func 127) #[] #[.pointer (some ⟨w0.heap.size, 0, none⟩)]) w1) := by
      unfold Hid
      rw [hw1, show midL N r 0 = travs N (E1 N) p0 by rw [← HP0.out]; rfl]
      refine Fd.values (w := w0.drew) (by have := HTS.out; rw [HTE.out] at this; exact this.next (show Nx w0 w0.drew from (Below.refl _ _).drew)) (fun g hg => Or.inl ?_) (Nat.le_of_lt HZ0.out)
      have hrow := (HR.out.trav p0 (by rw [← HP0.out]; exact wpos_lt (HWS.out 0 (by omega))))
      rw [HTE.out] at hrow
      exact hrow.lt g hg
    clear hw1
    refine hK _ _ ⟨Or.inl (Nat.le_refl _), ?_⟩
    clear hK K
    refine anyS_one (i := 13) (by kernel_rfl) (wpOpIn_step rfl (fun K hK => ?_))
    go_simp
    refine hK _ _ ⟨Or.inl (by decide), ?_⟩
    clear hK K
    refine anyS_done (by kernel_rfl) ?_ _
    clear hw hcl HSS
    have HB1 : Hid (BT w1 w.heap.size #[.int .i64 r.id, .bool r.only, .int .i64 r.frm, .int .i64 r.to, .bool false, .int .i64 r.node, .slice (some ⟨wb, wo, none⟩) nw wc] 93) := HB0.out.next HX1.out
    have x6 := HB1.out.blk.cell (i := 6) rfl
    have HXA : Hid (Nx w w1) := HX0.out.trans HX1.out
    have HCELL : Hid (∀ k, k < nw → ∀ q, Nx w q → q.cell? ⟨wb, wo + k, none⟩ = some (.int .i64 (iat r.ways k))) := fun k hk q hq => by
      obtain ⟨a', c', e', _, hh⟩ := HW.out.next hq
      obtain ⟨b', o', rfl, _, _, hcc⟩ := hh (by rw [HNW.out]; omega)
      simp only [Value.slice.injEq, Option.some.injEq, Addr.mk.injEq] at e'
      obtain ⟨⟨rfl, rfl, _⟩, _, _⟩ := e'
      exact hcc k (by rw [HNW.out]; exact hk)
    have hw1' : 1 ≤ nw := HONE.out.1
    have hcap : nw ≤ wc := by
      obtain ⟨_, _, _, e', h'⟩ := HCP.out
      simp only [Value.slice.injEq] at e'
      omega
    by_cases hc1 : wc = 1
    · have HOO : Hid (∀ k, k + 1 < nw → ∀ q, Nx w q → q.cell? ⟨wb, wo + k, none⟩ = some (.int .i64 (iat r.ways (k + 1)))) := fun k hk => by omega
      go_wp2_with fail
      generalize hnm : nw - 1 = nm at *
      have HNM : Hid (nw = nm + 1) := by unfold Hid; omega
      have hnmb : nm ≤ 3 := by have := HONE.out.2; omega
      clear hnm
      go_loopw [6, 8, 40] (fun f id i wr => ∃ k : Nat, k ≤ nm ∧ i = .int .i64 k ∧ Hid (Fd wR.heap.size w.heap.size ((midL N r k).map (sxOf (E1 N))) f wr) ∧ Hid (Nx w wr)) (fun _ _ i _ => nm - (intOf i).toNat)
      case atStart => exact ⟨0, Nat.zero_le _, rfl, HF1, HXA⟩
      case round =>
        clear HF1
        obtain ⟨k, hk, rfl, HF, HN⟩ := hrel
        by_cases hlt : k < nm
        · obtain ⟨gf, lb, Inv, rfl, _, _, _⟩ := HF.out
          have hk1 : k + 1 < nw := by have := HNM.out; omega
          have x1 := HOO.out k hk1 wr HN.out
          have HLW : Hid (LR C N (E1 N) N.ways.length (E1 N).length (E1 N).length (E1 N).length N.ways.length wr L) := (HR.out.ck HK.out).next HN.out
          have x2 := HLW.out.road.blk.cell (i := 6) rfl
          obtain ⟨x3, _⟩ := HLW.out.ways HV.out rfl (HWS.out (k + 1) hk1)
          have hst := (HR.out.ways HV.out rfl (HWS.out (k + 1) hk1)).2.ck (HK.out.trans (Ck.nx (X := noX) (K := noX) HN.out))
          have hpk := wpos_lt (HWS.out (k + 1) hk1)
          have HLEN := mkHid (mid_len HV.out HG.out HVIA.out (by rw [HNW.out]; exact hk1))
          have HEX := mkHid (mid_ext HV.out HG.out HVIA.out (by rw [HNW.out]; exact hk1))
          have x4 := (HLW.out.way _ hpk).blk.cell (i := 2) rfl
          have HROW : Hid (∀ g, (L.ts (wpos N.ways (iat r.ways (k + 1)))).ownBlock = some g → g < wR.heap.size) := (HR.out.trav _ hpk).lt
          generalize hpp : wpos N.ways (iat r.ways (k + 1)) = pk at *
          generalize hid : iat r.ways (k + 1) = idk at *
          have HST : Hid (HStx wR.heap.size wr (L.ts pk) ((travs N (E1 N) pk).map (sxOf (E1 N)))) := hst
          obtain ⟨sa, sc, hse, _, _⟩ := hst
          generalize hsn : ((travs N (E1 N) pk).map (sxOf (E1 N))).length = sn at *
          have HSE : Hid (L.ts pk = .slice sa sn sc) := hse
          have HSN : Hid (((travs N (E1 N) pk).map (sxOf (E1 N))).length = sn) := hsn
          have x4' : wr.cell? ⟨L.wb pk, 2, none⟩ = some (.slice sa sn sc) := by rw [← hse]; exact x4
          have hlt' : (k : Int) < nm := by omega
          clear hpk hsn hse hpp hid x4 hk1
          go_wp2_with (go_at_call 122; refine (extend_any _ _ _ _ _ _).mono ?_; rintro e w2 ⟨rfl, rfl⟩)
          go_roundw
          case rel =>
            refine ⟨k + 1, by omega, by go_num, ?_, HN.out.trans ((box1 _ _).trans (box1 _ _))⟩
            unfold Hid
            rw [HEX.out]
            exact Fd.ext HF.out (by rw [HSN.out]; exact HLEN.out) (by have := HST.out; rw [HSE.out] at this; exact this) (fun g hg => Or.inl (HROW.out g (by rw [HSE.out]; exact hg))) HN.out.size
          case measure => simp [intOf]; omega
        · have ek : k = nm := by omega
          subst ek
          go_wp2
          go_ret
          refine ⟨⟨_, rfl, ?_⟩, HN.out⟩
          unfold midS
          rw [if_neg (by rw [HVIA.out]; simp), HNW.out, show nw - 1 = k by have := HNM.out; omega]
          exact HF.out
    · have HOO : Hid (∀ k, k + 1 < nw → ∀ q, Nx w q → q.cell? ⟨wb, wo + 1 + k, none⟩ = some (.int .i64 (iat r.ways (k + 1)))) := fun k hk q hq => by rw [show wo + 1 + k = wo + (k + 1) by omega]; exact HCELL.out (k + 1) hk q hq
      go_wp2_with fail
      generalize hnm : nw - 1 = nm at *
      have HNM : Hid (nw = nm + 1) := by unfold Hid; omega
      have hnmb : nm ≤ 3 := by have := HONE.out.2; omega
      clear hnm
      go_loopw [6, 8, 40] (fun f id i wr => ∃ k : Nat, k ≤ nm ∧ i = .int .i64 k ∧ Hid (Fd wR.heap.size w.heap.size ((midL N r k).map (sxOf (E1 N))) f wr) ∧ Hid (Nx w wr)) (fun _ _ i _ => nm - (intOf i).toNat)
      case atStart => exact ⟨0, Nat.zero_le _, rfl, HF1, HXA⟩
      case round =>
        clear HF1
        obtain ⟨k, hk, rfl, HF, HN⟩ := hrel
        by_cases hlt : k < nm
        · obtain ⟨gf, lb, Inv, rfl, _, _, _⟩ := HF.out
          have hk1 : k + 1 < nw := by have := HNM.out; omega
          have x1 := HOO.out k hk1 wr HN.out
          have HLW : Hid (LR C N (E1 N) N.ways.length (E1 N).length (E1 N).length (E1 N).length N.ways.length wr L) := (HR.out.ck HK.out).next HN.out
          have x2 := HLW.out.road.blk.cell (i := 6) rfl
          obtain ⟨x3, _⟩ := HLW.out.ways HV.out rfl (HWS.out (k + 1) hk1)
          have hst := (HR.out.ways HV.out rfl (HWS.out (k + 1) hk1)).2.ck (HK.out.trans (Ck.nx (X := noX) (K := noX) HN.out))
          have hpk := wpos_lt (HWS.out (k + 1) hk1)
          have HLEN := mkHid (mid_len HV.out HG.out HVIA.out (by rw [HNW.out]; exact hk1))
          have HEX := mkHid (mid_ext HV.out HG.out HVIA.out (by rw [HNW.out]; exact hk1))
          have x4 := (HLW.out.way _ hpk).blk.cell (i := 2) rfl
          have HROW : Hid (∀ g, (L.ts (wpos N.ways (iat r.ways (k + 1)))).ownBlock = some g → g < wR.heap.size) := (HR.out.trav _ hpk).lt
          generalize hpp : wpos N.ways (iat r.ways (k + 1)) = pk at *
          generalize hid : iat r.ways (k + 1) = idk at *
          have HST : Hid (HStx wR.heap.size wr (L.ts pk) ((travs N (E1 N) pk).map (sxOf (E1 N)))) := hst
          obtain ⟨sa, sc, hse, _, _⟩ := hst
          generalize hsn : ((travs N (E1 N) pk).map (sxOf (E1 N))).length = sn at *
          have HSE : Hid (L.ts pk = .slice sa sn sc) := hse
          have HSN : Hid (((travs N (E1 N) pk).map (sxOf (E1 N))).length = sn) := hsn
          have x4' : wr.cell? ⟨L.wb pk, 2, none⟩ = some (.slice sa sn sc) := by rw [← hse]; exact x4
          have hlt' : (k : Int) < nm := by omega
          clear hpk hsn hse hpp hid x4 hk1
          go_wp2_with (go_at_call 122; refine (extend_any _ _ _ _ _ _).mono ?_; rintro e w2 ⟨rfl, rfl⟩)
          go_roundw
          case rel =>
            refine ⟨k + 1, by omega, by go_num, ?_, HN.out.trans ((box1 _ _).trans (box1 _ _))⟩
            unfold Hid
            rw [HEX.out]
            exact Fd.ext HF.out (by rw [HSN.out]; exact HLEN.out) (by have := HST.out; rw [HSE.out] at this; exact this) (fun g hg => Or.inl (HROW.out g (by rw [HSE.out]; exact hg))) HN.out.size
          case measure => simp [intOf]; omega
        · have ek : k = nm := by omega
          subst ek
          go_wp2
          go_ret
          refine ⟨⟨_, rfl, ?_⟩, HN.out⟩
          unfold midS
          rw [if_neg (by rw [HVIA.out]; simp), HNW.out, show nw - 1 = k by have := HNM.out; omega]
          exact HF.out
  · have HVIA : Hid (r.via = true) := hvia
    go_upto_region 2 with fail
    clear hvia
    generalize hW0 : w.alloc (.cells #[.int .i64 r.id, .bool r.only, .int .i64 r.frm, .int .i64 r.to, .bool true, .int .i64 r.node, .slice wa nw wc] 93) = w0
    have HX0 : Hid (Nx w w0) := by unfold Hid; rw [← hW0]; exact box1 _ _
    have HB0 : Hid (BT w0 w.heap.size #[.int .i64 r.id, .bool r.only, .int .i64 r.frm, .int .i64 r.to, .bool true, .int .i64 r.node, .slice wa nw wc] 93) := by unfold Hid; rw [← hW0]; exact BT.new _ _ _ _ rfl
    have rd := ((HR.out.ck HK.out).next HX0.out).road
    have HSS : Hid ((fun q => q.cell? ⟨L.br, 0, none⟩ = some L.v0 ∧ q.cell? ⟨L.br, 1, none⟩ = some L.v1 ∧ q.cell? ⟨L.br, 2, none⟩ = some L.v2 ∧ q.cell? ⟨L.br, 3, none⟩ = some L.v3 ∧ q.cell? ⟨L.br, 4, none⟩ = some (.int .i64 N.uturn) ∧ q.cell? ⟨w.heap.size, 5, none⟩ = some (.int .i64 r.node)) w0.drew) := ⟨rd.blk.cell (i := 0) rfl, rd.blk.cell (i := 1) rfl, rd.blk.cell (i := 2) rfl, rd.blk.cell (i := 3) rfl, rd.blk.cell (i := 4) rfl, HB0.out.blk.cell (i := 5) rfl⟩
    clear hW0 rd
    refine (wpIn_wide (n := 9)).1 ?_
    refine wpIn_region_S (c := 6) (S := fun q => q.cell? ⟨L.br, 0, none⟩ = some L.v0 ∧ q.cell? ⟨L.br, 1, none⟩ = some L.v1 ∧ q.cell? ⟨L.br, 2, none⟩ = some L.v2 ∧ q.cell? ⟨L.br, 3, none⟩ = some L.v3 ∧ q.cell? ⟨L.br, 4, none⟩ = some (.int .i64 N.uturn) ∧ q.cell? ⟨w.heap.size, 5, none⟩ = some (.int .i64 r.node)) hmx (by kernel_rfl) (fun hw hcl => ?_)
    refine anyS_take (i := 0) (v := .pointer (some ⟨L.br, 0, none⟩)) hw (by decide) hcl (noDefer_none rfl) rfl (by kernel_rfl) (by kernel_rfl) (by kernel_rfl) (fun _ _ _ h => h) ⟨Or.inl ⟨by kernel_rfl, ?y0⟩, fun _ => rfl⟩ HSS.out (fun hcl => ?_)
    case y0 =>
      rintro q ⟨c1, c2, c3, c4, c5, c6⟩
      go_simp
    refine anyS_take (i := 1) (v := .pointer (some ⟨L.br, 0, none⟩)) hw (by decide) hcl (noDefer_none rfl) rfl (by kernel_rfl) (by kernel_rfl) (by kernel_rfl) (fun _ _ _ h => h) ⟨Or.inl ⟨by kernel_rfl, ?y1⟩, fun _ => rfl⟩ HSS.out (fun hcl => ?_)
    case y1 =>
      rintro q ⟨c1, c2, c3, c4, c5, c6⟩
      go_simp
    refine anyS_take (i := 2) (v := .pointer (some ⟨L.br, 0, none⟩)) hw (by decide) hcl (noDefer_none rfl) rfl (by kernel_rfl) (by kernel_rfl) (by kernel_rfl) (fun _ _ _ h => h) ⟨Or.inl ⟨by kernel_rfl, ?y2⟩, fun _ => rfl⟩ HSS.out (fun hcl => ?_)
    case y2 =>
      rintro q ⟨c1, c2, c3, c4, c5, c6⟩
      go_simp
    refine anyS_take (i := 3) (v := .agg #[L.v0, L.v1, L.v2, L.v3, .int .i64 N.uturn]) hw (by decide) hcl (noDefer_none rfl) rfl (by kernel_rfl) (by kernel_rfl) (by kernel_rfl) (fun _ _ _ h => h) ⟨Or.inl ⟨by kernel_rfl, ?y3⟩, fun _ => rfl⟩ HSS.out (fun hcl => ?_)
    case y3 =>
      rintro q ⟨c1, c2, c3, c4, c5, c6⟩
      go_simp
    refine anyS_take (i := 4) (v := .pointer (some ⟨w.heap.size, 5, none⟩)) hw (by decide) hcl (noDefer_none rfl) rfl (by kernel_rfl) (by kernel_rfl) (by kernel_rfl) (fun _ _ _ h => h) ⟨Or.inl ⟨by kernel_rfl, ?y4⟩, fun _ => rfl⟩ HSS.out (fun hcl => ?_)
    case y4 =>
      rintro q ⟨c1, c2, c3, c4, c5, c6⟩
      go_simp
    refine anyS_take (i := 5) (v := .int .i64 r.node) hw (by decide) hcl (noDefer_none rfl) rfl (by kernel_rfl) (by kernel_rfl) (by kernel_rfl) (fun _ _ _ h => h) ⟨Or.inl ⟨by kernel_rfl, ?y5⟩, fun _ => rfl⟩ HSS.out (fun hcl => ?_)
    case y5 =>
      rintro q ⟨c1, c2, c3, c4, c5, c6⟩
      go_simp
    refine anyS_one (i := 6) (by kernel_rfl) (wpOpIn_step rfl (fun K hK => ?_))
    go_simp
    refine ⟨trivial, (callsIn_wide.2 (position_any B L.v0 L.v1 L.v2 L.v3 N.uturn r.node N.nodes _ ?_ (road_in HV.out).asc (HG.out.node HVIA.out))).mono ?_⟩
    · exact H0.out.next (HX0.out.trans (show Nx w0 w0.drew from (Below.refl _ _).drew))
    rintro e w1 ⟨rfl, hx1⟩
    have HX1 : Hid (Nx w w1) := HX0.out.trans ((show Nx w0 w0.drew from (Below.refl _ _).drew).trans hx1)
    clear hx1
    refine hK _ _ ⟨Or.inl (Nat.le_refl _), ?_⟩
    clear hK K
    refine anyS_one (i := 7) (by kernel_rfl) (wpOpIn_step rfl (fun K hK => ?_))
    go_simp
    refine hK _ _ ⟨Or.inl (by decide), ?_⟩
    clear hK K
    refine anyS_done (by kernel_rfl) ?_ _
    clear hw hcl HSS
    go_wp2_with (go_at_call 121; refine (values_any _ _ _ _).mono ?_; rintro e w2 ⟨rfl, rfl⟩)
    go_ret
    refine ⟨⟨.func (.func 127) #[] #[.pointer (some ⟨w1.heap.size + 1, 0, none⟩)], rfl, ?_⟩, (HX1.out.trans (box1 _ _)).trans (box1 _ _)⟩
    unfold midS
    rw [if_pos HVIA.out]
    have hF := Fd.values (z := wR.heap.size) (c := w.heap.size) (one_stx (BT.new w1 #[.int .i64 (pos N.nodes r.node), .int .i64 (pos N.nodes r.node), .slice none 0 0] 160 _ rfl)) (fun g hg => Or.inr ?_) (Nat.le_trans HX1.out.size (box1 _ _).size)
    · rw [size_alloc'] at hF
      exact hF
    have hg' : w1.heap.size = g := by simpa [Value.ownBlock] using hg
    have := HX1.out.size
    omega
end Go.Proofs.YtcdjmpbdaiafgaaGreatDoor
