import Derived.Test.YtcdjmpbdaiafgaaGreatDoorKK
import Derived.Test.YtcdjmpbdaiafgaaGreatDoorShelf
namespace Go.Proofs.YtcdjmpbdaiafgaaGreatDoor
open Go.RowKit Go.Sort Go.Shelf
set_option linter.unusedVariables false
set_option maxRecDepth 100000

theorem infoInt2 : ∃ i, Tryz.prog.info? 2 = some i ∧ i.zero = some (.int .i64 0) ∧ i.size = 1 ∧ i.bytes = 8 := by
  obtain ⟨ii, hi, hz0, hz1, hz2⟩ := info_parts infoInt
  exact ⟨ii, hi, hz0, hz1, hz2⟩
/-- slices.Grow at the nil slice -/
theorem growNil_any (n : Nat) (w : World) (hn : 0 < n) (hb : n ≤ 10000000) :
    Calls Tryz.prog 123 #[.slice none 0 0, .int .i64 (n : Int)] w fun e w' => (∃ cap, e = .returned (.slice (some ⟨w.heap.size, 0, none⟩) 0 cap) ∧ OwnI w.heap.size w' (.slice (some ⟨w.heap.size, 0, none⟩) 0 cap) []) ∧ Nx w w' := by
  obtain ⟨ii, hi, hz0, hz1, hz2⟩ := infoInt2
  refine Calls.mono (Any8.slices_Grow_grow Tryz.growA ii (.int .i64 0) hi hz0 (by rw [hz1]; decide) none 0 0 n [] w (Nat.le_refl _) (by omega) (by rw [hz2]; omega) (by omega) (by simp) (fun _ => rfl) (fun a h => by cases h)) ?_
  rintro e w' ⟨rfl, rfl⟩
  have hg := grownCap_ge w (0 + n) 0 (Tryz.growA_ren.t 25)
  have hl := grownCap_le_maxLen w (0 + n) 0 (Tryz.growA_ren.t 25) (by unfold maxLen; omega)
  have key : ∀ (cs : Array Value) (cap : Nat), cs.size = cap → cap ≤ maxLen → OwnI w.heap.size (w.drew.alloc (.cells cs 2)) (.slice (some ⟨w.heap.size, 0, none⟩) 0 cap) [] := fun cs cap h1 h2 =>
    ⟨rfl, Or.inr ⟨w.heap.size, cap, cs, rfl, Nat.le_refl _, by show (w.heap.push _)[w.heap.size]? = _; simp, Nat.zero_le _, h2, by omega, by simp [icells]⟩⟩
  refine ⟨⟨_, rfl, key _ _ ?_ hl⟩, Nx.trans (show Nx w w.drew from (Below.refl _ _).drew) (box1 w.drew _)⟩
  simp [Builtin.zeroCells, Value.cells]
  have e : grownCap w (0 + n) 0 (Tryz.growA_ren.t 25) = grownCap w n 0 (Tryz.growA_ren.t 25) := by rw [Nat.zero_add]
  rw [e] at hg
  omega

theorem add_at (b off i : Nat) : (⟨b, off, none⟩ : Addr).add i = ⟨b, off + i, none⟩ := by
  unfold Addr.add
  by_cases hi : i = 0 <;> simp [hi]
theorem run_append_none (w : World) (t ty e : TypeId) (i : TypeInfo) (ht : Tryz.prog.underlying t = some (.slice e)) (hi : Tryz.prog.info? e = some i) (a : Addr) (n cap c : Nat) (hn : n ≤ cap) :
    (Builtin.append_ #[t, t] ty #[.slice (some a) n cap, .slice none 0 c]).run Tryz.prog w = .ok (.slice (some a) n cap) w := by
  have hf := run_firstCells_none (P := Tryz.prog) (w := w) i.size 0 0 c
  simp [Builtin.append_, run_underlying ht, sizeOf, typeInfo, hi, Builtin.lenOf, hn, hf, storeCells]
/-- the words of a list of lists, one after another -/
def flatTo (ws : List (List Int)) (k : Nat) : List Int := (ws.take k).flatten
theorem flatTo_succ {ws : List (List Int)} {k : Nat} (h : k < ws.length) : flatTo ws (k + 1) = flatTo ws k ++ wd ws k := by
  unfold flatTo
  rw [List.take_succ_eq_append_getElem h, List.flatten_append]
  simp [wd, List.getD_eq_getElem?_getD, h]
theorem flatTo_all (ws : List (List Int)) : flatTo ws ws.length = ws.flatten := by unfold flatTo; rw [List.take_length]
theorem flatTo_le {ws : List (List Int)} : ∀ k, (flatTo ws k).length ≤ ws.flatten.length := by
  intro k
  unfold flatTo
  have : ws.flatten = (ws.take k).flatten ++ (ws.drop k).flatten := by rw [← List.flatten_append, List.take_append_drop]
  rw [this, List.length_append]
  omega
theorem OwnI.app {B : Nat} {w : World} {v : Value} {zs ys : List Int} (h : w.ownsRow B 2 1 v (zs.length + ys.length) (icells zs ++ icells ys)) : OwnI B w v (zs ++ ys) := by
  unfold OwnI
  have e : icells (zs ++ ys) = icells zs ++ icells ys := by simp [icells]
  rw [List.length_append, e]
  exact h

set_option maxHeartbeats 8000000 in
theorem concat_any (B : Nat) (v : Value) (ws : List (List Int)) (w : World) (h0 : HWords B w v ws) (hp : 0 < ws.flatten.length) (hl : ws.flatten.length ≤ 1000000) (hn : ws.length ≤ 10) :
    Calls Tryz.prog 110 #[v] w fun e w' => (∃ u, e = .returned u ∧ OwnI w.heap.size w' u ws.flatten) ∧ Nx w w' := by
  obtain ⟨ii, hi, hz0, hz1, hz2⟩ := info_parts infoInt
  have HW : Hid (HWords B w v ws) := h0
  obtain ⟨a, cap, rfl, jm, jk⟩ := h0
  clear jm jk
  generalize hnl : ws.length = n at *
  have HNL : Hid (ws.length = n) := hnl
  clear hnl
  have HFL : Hid (∀ k, (flatTo ws k).length ≤ ws.flatten.length) := flatTo_le
  generalize hfl : ws.flatten.length = fl at *
  have HF : Hid (ws.flatten.length = fl) := hfl
  clear hfl
  go_enter Tryz.func110, Tryz.ntmps110
  go_wp2
  go_loopw [3, 11] (fun s i wr => ∃ k : Nat, k ≤ n ∧ i = .int .i64 k ∧ s = .int .i64 ((flatTo ws k).length : Int) ∧ Hid (w = wr)) (fun _ i _ => n - (intOf i).toNat)
  case atStart => exact ⟨0, Nat.zero_le _, rfl, rfl, rfl⟩
  obtain ⟨k, hkm, rfl, rfl, hww⟩ := hrel
  have hww2 := hww.out
  subst hww2
  clear hww
  by_cases hlt : k < n
  · have hlt' : (k : Int) < n := by omega
    have HKW : Hid (k < ws.length) := by unfold Hid; rw [HNL.out]; exact hlt
    obtain ⟨b, off, c, hae, hb, vi, hvi, hI, hcI⟩ := HW.out.at' HKW.out
    simp only [Value.slice.injEq] at hae
    obtain ⟨rfl, jl, rfl⟩ := hae
    have HES : Hid (((flatTo ws (k + 1)).length : Int) = (flatTo ws k).length + (wd ws k).length) := by unfold Hid; rw [flatTo_succ HKW.out, List.length_append]; omega
    have h1 := HFL.out (k + 1)
    have h2 : (flatTo ws (k + 1)).length = (flatTo ws k).length + (wd ws k).length := by rw [flatTo_succ HKW.out, List.length_append]
    obtain ⟨ai, ci, rfl, ji, jk⟩ := hI
    have hbd : (flatTo ws k).length + (wd ws k).length ≤ fl := by omega
    clear jl ji jk hcI h1 h2
    generalize (wd ws k).length = wl at *
    generalize hfk : (flatTo ws k).length = fk at *
    clear hfk
    have g1 : decide ((fk : Int) + (wl : Int) < 0) = false := by simp; omega
    go_wp2
    go_roundw
    case rel => exact ⟨k + 1, by omega, by go_num, by rw [HES.out], (trivial : True)⟩
    case measure => simp [intOf]; omega
  have ek : n = k := by omega
  subst ek
  have HA : Hid ((flatTo ws n).length = fl) := by unfold Hid; rw [← HNL.out, flatTo_all]; exact HF.out
  rw [HA.out]
  clear hlt hkm
  go_wp2_with fail
  refine (growNil_any fl _ hp (by omega)).mono ?_
  rintro e w2 ⟨⟨cp, rfl, hO⟩, hx⟩
  have HO2 : Hid (OwnI w.heap.size w2 (.slice (some ⟨w.heap.size, 0, none⟩) 0 cp) (flatTo ws 0)) := hO
  have HX2 : Hid (Nx w w2) := hx
  clear hO hx
  go_wp2
  go_loopw [6, 27] (fun u i wq => ∃ k : Nat, k ≤ n ∧ i = .int .i64 k ∧ Hid (OwnI w.heap.size wq u (flatTo ws k)) ∧ Hid (Nx w wq) ∧ Hid (u.ownBlock ≠ none)) (fun _ i _ => n - (intOf i).toNat)
  case atStart => exact ⟨0, Nat.zero_le _, rfl, HO2, HX2, by unfold Hid; simp [Value.ownBlock]⟩
  clear HO2 HX2
  obtain ⟨k, hkm, rfl, HO, HN, HNB⟩ := hrel
  by_cases hlt : k < n
  case neg =>
    have ek : n = k := by omega
    subst ek
    have HFF : Hid (OwnI w.heap.size wr u6 ws.flatten) := by have := HO.out; rw [← HNL.out, flatTo_all] at this; exact this
    clear hlt hkm HO
    go_wp2
    go_ret
    exact ⟨⟨_, rfl, HFF.out⟩, HN.out⟩
  have hlt' : (k : Int) < n := by omega
  have HKW : Hid (k < ws.length) := by unfold Hid; rw [HNL.out]; exact hlt
  obtain ⟨b, off, c, hae, hb, vi, hvi, hI, hcI⟩ := HW.out.at' HKW.out
  simp only [Value.slice.injEq] at hae
  obtain ⟨rfl, jl, rfl⟩ := hae
  have c0 := cellq HN.out hvi
  have HES : Hid (flatTo ws (k + 1) = flatTo ws k ++ wd ws k) := flatTo_succ HKW.out
  have hbd : (flatTo ws k).length + (wd ws k).length ≤ fl := by have := HFL.out (k + 1); rw [HES.out, List.length_append] at this; exact this
  have HIr : Hid (HInts B wr vi (wd ws k)) := hI.next HN.out
  obtain ⟨ai, ci, rfl, ji, jk⟩ := hI
  clear jl ji hcI
  by_cases hz : (wd ws k).length = 0
  · have hnil : wd ws k = [] := List.length_eq_zero_iff.1 hz
    have HE2 : Hid (flatTo ws (k + 1) = flatTo ws k) := by unfold Hid; rw [HES.out, hnil, List.append_nil]
    obtain ⟨ua, uc, hue⟩ := HO.out.slice
    subst hue
    cases ua with
    | none => exact absurd rfl HNB.out
    | some ua =>
    have hcapu : (flatTo ws k).length ≤ uc := by
      rcases HO.out.2 with ⟨e, _⟩ | ⟨g, cap', cur, e, _, _, hc', _⟩
      · cases e
      · simp only [Value.slice.injEq] at e; omega
    cases ai with
    | none =>
      have hap := fun ty => run_append_none wr 22 ty 2 ii Tryz.underlying22 hi ua (flatTo ws k).length uc ci hcapu
      rw [hz] at c0
      generalize (flatTo ws k).length = zl at *
      clear jk hnil
      go_wp2
      go_roundw
      case rel => exact ⟨k + 1, by omega, by go_num, by unfold Hid; rw [HE2.out]; exact HO.out, HN, HNB⟩
      case measure => simp [intOf]; omega
    | some ad =>
      rw [hz] at c0
      generalize hzs : flatTo ws k = zs at *
      clear hzs
      generalize hzl : zs.length = zl at *
      have HZL : Hid (zs.length = zl) := hzl
      clear hzl jk hnil
      go_wp2_with (at_builtin; refine wpList_append_own_at _ rfl _ _ 22 rfl w.heap.size 2 ii (.int .i64 0) 1 8 Tryz.underlying22 hi hz0 hz1 hz2 rfl (by decide) _ _ _ rfl HO.out ad 0 ci [] rfl rfl ?g1 ?g2 ?g3 ?g4 ?g5 ?_)
      case g1 => intro j u hj; simp at hj
      case g2 => intro u hu; simp at hu
      case g3 => rw [HZL.out]; unfold maxLen; omega
      case g4 => rw [HZL.out]; omega
      case g5 => exact HN.out.size
      intro v7 w7 hown hgrow _ hat7
      have HO7 : Hid (OwnI w.heap.size w7 v7 (flatTo ws (k + 1))) := by unfold Hid; rw [HE2.out]; exact hown
      have HN7 : Hid (Nx w w7) := Below.grown HN.out hgrow HN.out.size (fun g hg => (own_lt HO.out g hg).1)
      have HB7 : Hid (v7.ownBlock ≠ none) := by rcases hat7 with e | e <;> (unfold Hid; rw [e]; first | exact HNB.out | simp)
      clear hown hgrow hat7 c0
      go_wp2
      go_roundw
      case rel => exact ⟨k + 1, by omega, by go_num, HO7, HN7, HB7⟩
      case measure => simp [intOf]; omega
  obtain ⟨bi, oi, rfl, jB, hbi, hci⟩ := jk (by omega)
  have HNEWS : Hid (∀ j u, (icells (wd ws k))[j]? = some u → wr.cell? ((⟨bi, oi, none⟩ : Addr).add j) = some u) := fun j u hj => by
    have hjl : j < (wd ws k).length := by
      have := (List.getElem?_eq_some_iff.1 hj).1
      simpa [icells] using this
    rw [icells_at hjl] at hj
    rw [add_at]
    cases hj
    exact cellq HN.out (hci j hjl)
  obtain ⟨ua, uc, hue⟩ := HO.out.slice
  subst hue
  generalize hzs : flatTo ws k = zs at *
  clear hzs
  generalize hys : wd ws k = ys at *
  clear hys jk hci
  generalize hzl : zs.length = zl at *
  have HZL : Hid (zs.length = zl) := hzl
  generalize hyl : ys.length = yl at *
  have HYL : Hid (ys.length = yl) := hyl
  clear hzl hyl
  go_wp2_with (at_builtin; refine wpList_append_own_at _ rfl _ _ 22 rfl w.heap.size 2 ii (.int .i64 0) 1 8 Tryz.underlying22 hi hz0 hz1 hz2 rfl (by decide) _ _ _ rfl HO.out ⟨bi, oi, none⟩ yl ci (icells ys) rfl ?f0 HNEWS.out ?f2 ?f3 ?f4 ?f5 ?_)
  case f0 => rw [icells, List.length_map, HYL.out]; omega
  case f2 => intro u hu; obtain ⟨z, _, rfl⟩ := List.mem_map.1 hu; rfl
  case f3 => rw [HZL.out]; unfold maxLen; omega
  case f4 => rw [HZL.out]; omega
  case f5 => exact HN.out.size
  intro v7 w7 hown hgrow _ hat7
  have HO7 : Hid (OwnI w.heap.size w7 v7 (flatTo ws (k + 1))) := by unfold Hid; rw [HES.out]; exact OwnI.app (by rw [HYL.out]; exact hown)
  have HN7 : Hid (Nx w w7) := Below.grown HN.out hgrow HN.out.size (fun g hg => (own_lt HO.out g hg).1)
  have HB7 : Hid (v7.ownBlock ≠ none) := by rcases hat7 with e | e <;> (unfold Hid; rw [e]; first | exact HNB.out | simp)
  clear hown hgrow hat7 c0
  go_wp2
  go_roundw
  case rel => exact ⟨k + 1, by omega, by go_num, HO7, HN7, HB7⟩
  case measure => simp [intOf]; omega
end Go.Proofs.YtcdjmpbdaiafgaaGreatDoor

namespace Go.Proofs.YtcdjmpbdaiafgaaGreatDoor
open Go.RowKit Go.Sort
set_option linter.unusedVariables false
set_option maxRecDepth 100000

/-- a row of pointers, open -/
def RWP (w : World) (g n : Nat) (F : Nat → Nat) : Prop := ∃ c : Array Value, w.heap[g]? = some (.cells c 120 (0, 0)) ∧ n ≤ c.size ∧ ∀ i, i < n → c[i]? = some (.pointer (some ⟨F i, 0, none⟩))
theorem RWP.lt {w : World} {g n : Nat} {F : Nat → Nat} (h : RWP w g n F) : g < w.heap.size := by
  obtain ⟨c, hb, _⟩ := h
  exact (Array.getElem?_eq_some_iff.1 hb).1
theorem RWP.cell {w : World} {g n : Nat} {F : Nat → Nat} (h : RWP w g n F) {i : Nat} (hi : i < n) : w.cell? ⟨g, i, none⟩ = some (.pointer (some ⟨F i, 0, none⟩)) := by
  obtain ⟨c, hb, _, hc⟩ := h
  simp [World.cell?, hb, hc i hi]
theorem RWP.frozen {w : World} {g n : Nat} {F : Nat → Nat} (h : RWP w g n F) (i : Nat) : w.frozen? ⟨g, i, none⟩ = false := by
  obtain ⟨c, hb, _, _⟩ := h
  simp [World.frozen?, hb]
theorem RWP.congr {w : World} {g n : Nat} {F G : Nat → Nat} (h : RWP w g n F) (e : ∀ i, i < n → F i = G i) : RWP w g n G := by
  obtain ⟨c, hb, hs, hc⟩ := h
  exact ⟨c, hb, hs, fun i hi => by rw [hc i hi, e i hi]⟩
theorem RWP.set {w : World} {g n : Nat} {F : Nat → Nat} (h : RWP w g n F) {i : Nat} (hi : i < n) (p : Nat) : RWP (w.setCell ⟨g, i, none⟩ (.pointer (some ⟨p, 0, none⟩))) g n (fun t => if t = i then p else F t) := by
  obtain ⟨c, hb, hs, hc⟩ := h
  refine ⟨c.setIfInBounds i (.pointer (some ⟨p, 0, none⟩)), by simp [World.setCell, Array.getElem?_modify, hb], by simpa using hs, fun t ht => ?_⟩
  rw [Array.getElem?_setIfInBounds]
  by_cases e : i = t
  · subst e
    rw [if_pos rfl, if_pos (by omega)]
    simp
  · rw [if_neg e, hc t ht]
    have e' : ¬ t = i := fun x => e x.symm
    simp [e']
theorem RWP.drewN {w : World} {g n : Nat} {F : Nat → Nat} (h : RWP w g n F) : RWP w.drew g n F := h
theorem RWP.held {w : World} {g n c : Nat} {F : Nat → Nat} (h : RWP w g n F) {ps : List Nat} (hp : ps.length = n) (hm : n ≤ maxLen) (he : ∀ i, i < n → F i = ps.getD i 0) {B : Nat} (hB : B ≤ g) : HPtrs B w (.slice (some ⟨g, 0, none⟩) n c) ps := by
  subst hp
  refine ⟨_, _, rfl, hm, fun h0 => ⟨g, 0, rfl, hB, h.lt, fun i hi => ?_⟩⟩
  show w.cell? ⟨g, 0 + i, none⟩ = _
  rw [Nat.zero_add, h.cell hi, he i hi]
/-- k turned at either end -/
def rvK (f : Nat → Nat) (n k t : Nat) : Nat := if t < k ∨ n ≤ t + k then f (n - 1 - t) else f t

set_option maxHeartbeats 8000000 in
theorem reverse_any (g n c : Nat) (f : Nat → Nat) (w : World) (h0 : RWP w g n f) (hn : n ≤ 10000) (hp : 0 < n) :
    Calls Tryz.prog 104 #[.slice (some ⟨g, 0, none⟩) n c] w fun e w' => (∃ x, e = .returned x) ∧ RWP w' g n (fun t => f (n - 1 - t)) ∧ Only (some g) w w' := by
  have HR0 : Hid (RWP w g n (rvK f n 0)) := h0.congr (fun i hi => by unfold rvK; rw [if_neg (by omega)])
  obtain ⟨m, rfl⟩ : ∃ m, n = m + 1 := ⟨n - 1, by omega⟩
  clear h0
  have hwj := wrapJ m (by omega)
  go_enter Tryz.func104, Tryz.ntmps104
  go_wp2
  go_loopw [2, 3] (fun a b wr => ∃ k : Nat, 2 * k ≤ m + 2 ∧ a = .int .i64 k ∧ b = .int .i64 ((m : Int) - (k : Int)) ∧ Hid (RWP wr g (m + 1) (rvK f (m + 1) k)) ∧ Hid (Only (some g) w wr)) (fun a _ _ => m + 2 - (intOf a).toNat)
  case atStart => exact ⟨0, by omega, rfl, by simp, HR0, Only.refl _ _⟩
  clear HR0
  obtain ⟨k, hkm, rfl, rfl, HR, HO⟩ := hrel
  by_cases hlt : 2 * k < m
  · obtain ⟨j, hj⟩ : ∃ j : Nat, (m : Int) - (k : Int) = (j : Int) := ⟨m - k, by omega⟩
    have hjm : j + k = m := by omega
    rw [hj]
    have hd : decide ((k : Int) < (j : Int)) = true := by simp; omega
    have hk1 : (k : Int) < (m : Int) + 1 := by omega
    have hj1 : (j : Int) < (m : Int) + 1 := by omega
    have hj0 : (0 : Int) ≤ (j : Int) := by omega
    have hk0 : (0 : Int) ≤ (k : Int) := by omega
    have cj := HR.out.cell (i := j) (by omega)
    have ck := HR.out.cell (i := k) (by omega)
    have HPJ : Hid (rvK f (m + 1) k j = f j) := by unfold Hid rvK; rw [if_neg (by omega)]
    have HPK : Hid (rvK f (m + 1) k k = f k) := by unfold Hid rvK; rw [if_neg (by omega)]
    rw [HPJ.out] at cj
    rw [HPK.out] at ck
    have HJ1 : Hid ((m : Int) - ((k + 1 : Nat) : Int) = (j : Int) - 1) := by unfold Hid; omega
    generalize hpj : f j = pj at *
    generalize hpk : f k = pk at *
    have HRN : Hid (∀ W, RWP W g (m + 1) (rvK f (m + 1) k) → RWP ((W.setCell ⟨g, k, none⟩ (.pointer (some ⟨pj, 0, none⟩))).setCell ⟨g, j, none⟩ (.pointer (some ⟨pk, 0, none⟩))) g (m + 1) (rvK f (m + 1) (k + 1))) := fun W hW => by
      refine ((hW.set (i := k) (by omega) pj).set (i := j) (by omega) pk).congr (fun t ht => ?_)
      unfold rvK
      by_cases e1 : t = j
      · subst e1
        rw [if_pos rfl, if_pos (by omega), show m + 1 - 1 - t = k by omega, hpk]
      · rw [if_neg e1]
        by_cases e2 : t = k
        · subst e2
          rw [if_pos rfl, if_pos (by omega), show m + 1 - 1 - t = j by omega, hpj]
        · rw [if_neg e2]
          by_cases e3 : t < k ∨ m + 1 ≤ t + k
          · rw [if_pos e3, if_pos (by omega)]
          · rw [if_neg e3, if_neg (by omega)]
    clear hj hpj hpk
    have hkj : ¬ k = j := by omega
    have hjk : ¬ j = k := by omega
    have HRD : Hid (RWP wr.drew g (m + 1) (rvK f (m + 1) k)) := HR.out
    have d1 : (wr.drew.setCell ⟨g, k, none⟩ (.pointer (some ⟨pj, 0, none⟩))).cell? ⟨g, j, none⟩ = some (.pointer (some ⟨pj, 0, none⟩)) := by
      have := (HRD.out.set (i := k) (by omega) pj).cell (i := j) (by omega)
      rw [if_neg hjk, HPJ.out] at this
      exact this
    have d2 : (wr.drew.setCell ⟨g, k, none⟩ (.pointer (some ⟨pj, 0, none⟩))).frozen? ⟨g, j, none⟩ = false := (HRD.out.set (i := k) (by omega) pj).frozen j
    have d3 : (wr.drew.setCell ⟨g, j, none⟩ (.pointer (some ⟨pk, 0, none⟩))).cell? ⟨g, k, none⟩ = some (.pointer (some ⟨pk, 0, none⟩)) := by
      have := (HRD.out.set (i := j) (by omega) pk).cell (i := k) (by omega)
      rw [if_neg hkj, HPK.out] at this
      exact this
    have d4 : (wr.drew.setCell ⟨g, j, none⟩ (.pointer (some ⟨pk, 0, none⟩))).frozen? ⟨g, k, none⟩ = false := (HRD.out.set (i := j) (by omega) pk).frozen k
    have fk := HR.out.frozen k
    have fj := HR.out.frozen j
    go_upto_region 3 with fail
    go_region
    clear d1 d2 d3 d4 cj ck fk fj hd
    go_wp2
    go_roundw
    case rel => exact ⟨k + 1, by omega, by go_num, by rw [HJ1.out], HRN.out _ HRD.out, Only.set (Only.set (Only.nx HO.out (show Nx wr wr.drew from (Below.refl _ _).drew)) rfl _) rfl _⟩
    case measure => simp [intOf]; omega
  have hd : decide ((k : Int) < (m : Int) - (k : Int)) = false := by simp; omega
  have HF : Hid (RWP wr g (m + 1) (fun t => f (m + 1 - 1 - t))) := HR.out.congr (fun t ht => by
    unfold rvK
    by_cases e : t < k ∨ m + 1 ≤ t + k
    · rw [if_pos e]
    · rw [if_neg e]
      congr 1
      omega)
  clear hlt hkm
  go_wp2
  go_end0
  exact ⟨⟨_, rfl⟩, HF.out, HO.out⟩
end Go.Proofs.YtcdjmpbdaiafgaaGreatDoor
