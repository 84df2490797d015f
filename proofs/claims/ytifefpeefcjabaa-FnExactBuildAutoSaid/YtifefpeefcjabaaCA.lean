import Derived.Test.YtifefpeefcjabaaAE
namespace Go.Proofs.Ytifefpeefcjabaa
open Go.RowKit
set_option linter.unusedVariables false
set_option maxRecDepth 100000

theorem cellq' {w w' : World} (k : Nx w w') {b o : Nat} {v : Value} (h : w.cell? ⟨b, o, none⟩ = some v) : w'.cell? ⟨b, o, none⟩ = some v := cell_next k (cell_lt h) h
structure Ru where
  rel : Int
  only : Bool
  seq : List Int
def rat (rs : List Ru) (i : Nat) : Ru := rs.getD i ⟨0, false, []⟩
def HRule (B : Nat) (w : World) (b o : Nat) (x : Ru) : Prop :=
  ∃ a c, w.cell? ⟨b, o, none⟩ = some (.int .i64 x.rel) ∧ w.cell? ⟨b, o + 1, none⟩ = some (.bool x.only) ∧ w.cell? ⟨b, o + 2, none⟩ = some (.slice a x.seq.length c) ∧ HInts B w (.slice a x.seq.length c) x.seq ∧ x.seq.length ≤ c
def HRules (B : Nat) (w : World) (v : Value) (rs : List Ru) : Prop := HSlice B w v rs.length fun b off i => HRule B w b (off + i * 3) (rat rs i)
theorem HRule.keep {B : Nat} {w w' : World} {b o : Nat} {x : Ru} (h : HRule B w b o x) (hb : B ≤ b) (hs : b < w.heap.size) (k : Keeps B w w') : HRule B w' b o x := by
  obtain ⟨a, c, h1, h2, h3, h4, h5⟩ := h
  exact ⟨a, c, (k.2 b hb hs _).trans h1, (k.2 b hb hs _).trans h2, (k.2 b hb hs _).trans h3, h4.keep k, h5⟩
theorem HRules.keep {B : Nat} {w w' : World} {v : Value} {rs : List Ru} (h : HRules B w v rs) (k : Keeps B w w') : HRules B w' v rs :=
  HSlice.mono h (Nat.le_refl _) k.1 fun b off hb hs i hi hc => hc.keep hb hs k
theorem HRules.next {B : Nat} {w w' : World} {v : Value} {rs : List Ru} (h : HRules B w v rs) (k : Nx w w') : HRules B w' v rs := h.keep (k.keeps B)

def edgeB (e : Int) : Bool := decide (0 ≤ e) && decide (e < 4000)
def rgAt (x : Ru) : Bool := decide (2 ≤ x.seq.length) && (decide (x.seq.length ≤ 402) && allN x.seq.length (fun j => edgeB (iat x.seq j)))
def rgB (rs : List Ru) : Bool := decide (rs.length ≤ 1000) && allN rs.length (fun i => rgAt (rat rs i))
theorem rg_len {rs : List Ru} (h : ¬ rs.length ≤ 1000) : false = rgB rs := by simp [rgB, h]
theorem rg_no {rs : List Ru} {k n : Nat} (hn : rs.length = n) (hk : k < n) (h : rgAt (rat rs k) = false) : false = rgB rs := by
  subst hn
  unfold rgB
  rw [allN_no (p := fun i => rgAt (rat rs i)) hk h]; simp
theorem rg_yes {rs : List Ru} {k n : Nat} (hn : rs.length = n) (h1 : n ≤ 1000) (hk : n ≤ k) (h : allTo (fun i => rgAt (rat rs i)) k) : true = rgB rs := by
  subst hn
  unfold rgB
  rw [allN_yes hk h]; simp [h1]

set_option maxHeartbeats 2000000 in
theorem l3RulesGood_any (B : Nat) (v : Value) (rs : List Ru) (w : World) (h0 : HRules B w v rs) :
    Calls Try.prog 28 #[v] w fun e w' => e = .returned (.bool (rgB rs)) ∧ w' = w := by
  obtain ⟨a, cap, rfl, hn, hk⟩ := h0
  unfold maxLen at hn
  generalize hz : rs.length = n at *
  have HZ : Hid (rs.length = n) := hz
  clear hz
  by_cases e1 : n ≤ 1000
  case neg =>
    have d1 : decide (1000 < (n : Int)) = true := by simp; omega
    have HF : Hid (false = rgB rs) := rg_len (by rw [HZ.out]; exact e1)
    go_enter Try.func28, Try.ntmps28
    go_wp2
    go_ret
    exact ⟨ret_bool HF.out, rfl⟩
  have d1 : decide (1000 < (n : Int)) = false := by simp; omega
  go_enter Try.func28, Try.ntmps28
  go_wp2
  clear d1
  go_loop [3, 4] (fun i _ => ∃ k : Nat, k ≤ n ∧ i = .int .i64 k ∧ Hid (allTo (fun i => rgAt (rat rs i)) k)) (fun i _ => n - (intOf i).toNat)
  case atStart => exact ⟨0, Nat.zero_le _, rfl, allTo_zero _⟩
  obtain ⟨k, hkn, rfl, HA⟩ := hrel
  by_cases hlt : k < n
  case neg =>
    have HF : Hid (true = rgB rs) := rg_yes HZ.out e1 (by omega) HA.out
    go_wp2
    go_ret
    exact ⟨ret_bool HF.out, rfl⟩
  obtain ⟨b, off, rfl, _, hb, hc⟩ := hk (by omega)
  obtain ⟨sa, sc, c0, c1, c2, hS, hcap⟩ := hc k hlt
  have hlt' : (k : Int) < n := by omega
  clear c0 c1 hc hk
  generalize hx : rat rs k = x at *
  have HX : Hid (rat rs k = x) := hx
  clear hx
  obtain ⟨sa', sc', e', hsn, hsk⟩ := hS
  simp only [Value.slice.injEq] at e'
  obtain ⟨rfl, _, rfl⟩ := e'
  unfold maxLen at hsn
  have HRG : Hid (rgAt x = (decide (2 ≤ x.seq.length) && (decide (x.seq.length ≤ 402) && allN x.seq.length (fun j => edgeB (iat x.seq j))))) := rfl
  generalize hm : x.seq.length = m at *
  clear hm
  by_cases g1 : 2 ≤ m
  case neg =>
    have f1 : decide ((m : Int) < 2) = true := by simp; omega
    have HF : Hid (false = rgB rs) := rg_no HZ.out hlt (by rw [HX.out, HRG.out]; simp [g1])
    go_wp2
    go_ret
    exact ⟨ret_bool HF.out, rfl⟩
  have f1 : decide ((m : Int) < 2) = false := by simp; omega
  by_cases g2 : m ≤ 402
  case neg =>
    have f2 : decide (402 < (m : Int)) = true := by simp; omega
    have HF : Hid (false = rgB rs) := rg_no HZ.out hlt (by rw [HX.out, HRG.out]; simp [g2])
    go_wp2
    go_ret
    exact ⟨ret_bool HF.out, rfl⟩
  have f2 : decide (402 < (m : Int)) = false := by simp; omega
  go_wp2
  clear f1 f2
  go_loop [4] (fun i => ∃ q : Nat, q ≤ m ∧ i = .int .i64 q ∧ Hid (allTo (fun j => edgeB (iat x.seq j)) q)) (fun i => m - (intOf i).toNat)
  case atStart => exact ⟨0, Nat.zero_le _, rfl, allTo_zero _⟩
  obtain ⟨q, hqm, rfl, HQ⟩ := hrel
  by_cases hql : q < m
  case neg =>
    have HF : Hid (rgAt x = true) := by unfold Hid; rw [HRG.out, allN_yes (by omega) HQ.out]; simp [g1, g2]
    go_wp2
    go_round
    case rel => exact ⟨k + 1, by omega, by go_num, allTo_succ HA.out (by show rgAt (rat rs k) = true; rw [HX.out]; exact HF.out)⟩
    case measure => simp [intOf]; omega
  obtain ⟨b', off', rfl, _, hb', hc'⟩ := hsk (by omega)
  have x0 := hc' q hql
  have hql' : (q : Int) < m := by omega
  clear hc' hsk
  by_cases g3 : 0 ≤ iat x.seq q
  case neg =>
    have f3 : decide (iat x.seq q < 0) = true := by simp; omega
    have HF : Hid (false = rgB rs) := rg_no HZ.out hlt (by rw [HX.out, HRG.out, allN_no hql (by simp [edgeB, g3])]; simp)
    clear g3
    go_wp2
    go_ret
    exact ⟨ret_bool HF.out, rfl⟩
  have f3 : decide (iat x.seq q < 0) = false := by simp; omega
  by_cases g4 : iat x.seq q < 4000
  case neg =>
    have f4 : decide (4000 ≤ iat x.seq q) = true := by simp; omega
    have HF : Hid (false = rgB rs) := rg_no HZ.out hlt (by rw [HX.out, HRG.out, allN_no hql (by simp [edgeB, g4])]; simp)
    clear g3 g4
    go_wp2
    go_ret
    exact ⟨ret_bool HF.out, rfl⟩
  have f4 : decide (4000 ≤ iat x.seq q) = false := by simp; omega
  have HE : Hid (edgeB (iat x.seq q) = true) := by unfold Hid; simp [edgeB, g3, g4]
  clear g3 g4
  go_wp2
  go_round
  case rel => exact ⟨q + 1, by omega, by go_num, allTo_succ HQ.out HE.out⟩
  case measure => simp [intOf]; omega

/-- q is the end of xs -/
def sufB (q xs : List Int) : Bool := decide (q.length ≤ xs.length) && allN q.length (fun i => iat xs (xs.length - q.length + i) == iat q i)

set_option maxHeartbeats 2000000 in
theorem l2Suffix_any (B B' : Nat) (v v' : Value) (xs q : List Int) (w : World) (h0 : HInts B w v xs) (h1 : HInts B' w v' q) :
    Calls Try.prog 53 #[v, .int .i64 xs.length, v'] w fun e w' => e = .returned (.bool (sufB q xs)) ∧ Nx w w' := by
  have HSD : Hid (sufB q xs = (decide (q.length ≤ xs.length) && allN q.length (fun i => iat xs (xs.length - q.length + i) == iat q i))) := rfl
  obtain ⟨a, cap, rfl, hn, hk⟩ := h0
  obtain ⟨a', cap', rfl, hn', hk'⟩ := h1
  unfold maxLen at hn hn'
  generalize xs.length = n at *
  generalize q.length = m at *
  by_cases e1 : m ≤ n
  case neg =>
    have d1 : decide ((n : Int) < m) = true := by simp; omega
    have HF : Hid (false = sufB q xs) := by unfold Hid; rw [HSD.out]; simp [e1]
    go_enter Try.func53, Try.ntmps53
    go_wp2
    go_ret
    exact ⟨ret_bool HF.out, Nx.refl _⟩
  have d1 : decide ((n : Int) < m) = false := by simp; omega
  obtain ⟨d, rfl⟩ : ∃ d, n = m + d := ⟨n - m, by omega⟩
  have HS2 : Hid (sufB q xs = allN m (fun i => iat xs (d + i) == iat q i)) := by
    unfold Hid
    rw [HSD.out, show m + d - m = d by omega]
    simp
  clear HSD d1
  have d1 : decide ((m : Int) + d < m) = false := by simp; omega
  go_enter Try.func53, Try.ntmps53
  go_wp2
  clear d1
  go_loopw [7] (fun i wr => ∃ k : Nat, k ≤ m ∧ i = .int .i64 k ∧ Hid (allTo (fun i => iat xs (d + i) == iat q i) k) ∧ Hid (Nx w wr)) (fun i _ => m - (intOf i).toNat)
  case atStart => exact ⟨0, Nat.zero_le _, rfl, allTo_zero _, Nx.refl _⟩
  obtain ⟨k, hkm, rfl, HA, HN⟩ := hrel
  by_cases hlt : k < m
  case neg =>
    have HF : Hid (true = sufB q xs) := by unfold Hid; rw [HS2.out, allN_yes (by omega) HA.out]
    go_wp2
    go_ret
    exact ⟨ret_bool HF.out, HN.out⟩
  obtain ⟨b, off, rfl, _, hb, hc⟩ := hk (by omega)
  obtain ⟨b', off', rfl, _, hb', hc'⟩ := hk' (by omega)
  have x0 := cell_next HN.out hb (hc (d + k) (by omega))
  have y0 := cell_next HN.out hb' (hc' k hlt)
  have hlt' : (k : Int) < m := by omega
  have w1 : IntKind.i64.wrap ((m : Int) + d - m) = (d : Int) := by rw [IntKind.wrap_i64]; omega
  have w2 : IntKind.i64.wrap ((d : Int) + k) = (d : Int) + k := by rw [IntKind.wrap_i64]; omega
  have hdk : (d : Int) + k < (m : Int) + d := by omega
  clear hc hc' hk hk'
  cases g : (iat xs (d + k) == iat q k)
  case false =>
    have g' : (iat xs (d + k) != iat q k) = true := by simpa using g
    have HF : Hid (false = sufB q xs) := by unfold Hid; rw [HS2.out, allN_no hlt g]
    clear g
    go_wp2
    go_quiet (fail)
    go_wp2
    go_ret
    exact ⟨ret_bool HF.out, HN.out.trans ⟨rfl, rfl, rfl, Nat.le_refl _, fun _ _ => rfl⟩⟩
  case true =>
    have g' : (iat xs (d + k) != iat q k) = false := by simpa using g
    have HG : Hid ((iat xs (d + k) == iat q k) = true) := g
    clear g
    go_wp2
    go_quiet (fail)
    go_wp2
    go_roundw
    case rel => exact ⟨k + 1, by omega, by go_num, allTo_succ HA.out HG.out, HN.out.trans ⟨rfl, rfl, rfl, Nat.le_refl _, fun _ _ => rfl⟩⟩
    case measure => simp [intOf]; omega

def badAt (x : Ru) (xs : List Int) : Bool := !x.only && sufB x.seq xs
def badS (rs : List Ru) (xs : List Int) : Bool := !allN rs.length (fun i => !badAt (rat rs i) xs)
theorem bad_yes {rs : List Ru} {xs : List Int} {k n : Nat} (hn : rs.length = n) (hk : k < n) (h : badAt (rat rs k) xs = true) : true = badS rs xs := by
  subst hn
  unfold badS
  rw [allN_no (p := fun i => !badAt (rat rs i) xs) hk (by simp [h])]; rfl
theorem bad_no {rs : List Ru} {xs : List Int} {k n : Nat} (hn : rs.length = n) (hk : n ≤ k) (h : allTo (fun i => !badAt (rat rs i) xs) k) : false = badS rs xs := by
  subst hn
  unfold badS
  rw [allN_yes hk h]; rfl

set_option maxHeartbeats 2000000 in
theorem l3Bad_any (B B' : Nat) (v v' : Value) (rs : List Ru) (xs : List Int) (w : World) (h0 : HRules B w v rs) (h1 : HInts B' w v' xs) :
    Calls Try.prog 33 #[v, v'] w fun e w' => e = .returned (.bool (badS rs xs)) ∧ Nx w w' := by
  have HX : Hid (HInts B' w v' xs) := h1
  obtain ⟨a, cap, rfl, hn, hk⟩ := h0
  obtain ⟨a', cap', rfl, hn', _⟩ := h1
  unfold maxLen at hn hn'
  generalize hz : rs.length = n at *
  have HZ : Hid (rs.length = n) := hz
  clear hz
  go_enter Try.func33, Try.ntmps33
  go_wp2
  go_loopw [5] (fun i wr => ∃ k : Nat, k ≤ n ∧ i = .int .i64 k ∧ Hid (allTo (fun i => !badAt (rat rs i) xs) k) ∧ Hid (Nx w wr)) (fun i _ => n - (intOf i).toNat)
  case atStart => exact ⟨0, Nat.zero_le _, rfl, allTo_zero _, Nx.refl _⟩
  obtain ⟨k, hkm, rfl, HA, HN⟩ := hrel
  by_cases hlt : k < n
  case neg =>
    have HF : Hid (false = badS rs xs) := bad_no HZ.out (by omega) HA.out
    go_wp2
    go_ret
    exact ⟨ret_bool HF.out, HN.out⟩
  obtain ⟨b, off, rfl, _, hb, hc⟩ := hk (by omega)
  obtain ⟨sa, sc, c0, c1, c2, hS, hcap⟩ := hc k hlt
  have c1 := cell_next HN.out hb c1
  have c2 := cell_next HN.out hb c2
  have hlt' : (k : Int) < n := by omega
  have HS : Hid (HInts B w (.slice sa (rat rs k).seq.length sc) (rat rs k).seq) := hS
  have HBD : Hid (badAt (rat rs k) xs = (!(rat rs k).only && sufB (rat rs k).seq xs)) := rfl
  clear hc hk c0 hS
  cases g1 : (rat rs k).only
  case true =>
    have HF : Hid ((!badAt (rat rs k) xs) = true) := by unfold Hid; rw [HBD.out, g1]; rfl
    rw [g1] at c1
    clear g1
    go_wp2
    go_roundw
    case rel => exact ⟨k + 1, by omega, by go_num, allTo_succ HA.out HF.out, HN⟩
    case measure => simp [intOf]; omega
  rw [g1] at c1 HBD
  clear g1
  go_wp2_with fail
  refine (l2Suffix_any B' B _ _ xs (rat rs k).seq _ (by exact HX.out.next HN.out) (by exact HS.out.next HN.out)).mono ?_
  rintro e w1 ⟨rfl, hx⟩
  have HN1 : Hid (Nx w w1) := HN.out.trans hx
  clear hx c1 c2
  cases g2 : sufB (rat rs k).seq xs
  case true =>
    have HF : Hid (true = badS rs xs) := bad_yes HZ.out hlt (by rw [HBD.out, g2]; rfl)
    clear g2
    go_wp2
    go_ret
    exact ⟨ret_bool HF.out, HN1.out⟩
  case false =>
    have HF : Hid ((!badAt (rat rs k) xs) = true) := by unfold Hid; rw [HBD.out, g2]; rfl
    clear g2
    go_wp2
    go_roundw
    case rel => exact ⟨k + 1, by omega, by go_num, allTo_succ HA.out HF.out, HN1⟩
    case measure => simp [intOf]; omega

theorem iat_take {zs : List Int} {k i : Nat} (h : i < k) : iat (zs.take k) i = iat zs i := by
  simp [iat, List.getD, List.getElem?_take_of_lt h]
theorem HInts.take {B : Nat} {w : World} {a : Option Addr} {n c : Nat} {zs : List Int} (h : HInts B w (.slice a n c) zs) {k : Nat} (hk : k ≤ n) (c' : Nat) : HInts B w (.slice a k c') (zs.take k) := by
  obtain ⟨a0, c0, e, hn, hk'⟩ := h
  simp only [Value.slice.injEq] at e
  obtain ⟨rfl, rfl, rfl⟩ := e
  have hl : (zs.take k).length = k := by rw [List.length_take]; omega
  refine ⟨_, c', by rw [hl], by rw [hl]; omega, fun h0 => ?_⟩
  rw [hl] at h0
  obtain ⟨b, off, rfl, hB, hb, hc⟩ := hk' (by omega)
  refine ⟨b, off, rfl, hB, hb, fun i hi => ?_⟩
  rw [hl] at hi
  show w.cell? _ = _
  rw [iat_take hi]
  exact hc i (by omega)

def joinM (m l : Int) : Int := if m = -1 ∨ m = l then l else -2
def mustAt (x : Ru) (xs : List Int) : Bool := x.only && sufB (x.seq.take (x.seq.length - 1)) xs
def mustTo (rs : List Ru) (xs : List Int) : Nat → Int
  | 0 => -1
  | k + 1 => if mustAt (rat rs k) xs = true then joinM (mustTo rs xs k) (iat (rat rs k).seq ((rat rs k).seq.length - 1)) else mustTo rs xs k
def mustS (rs : List Ru) (xs : List Int) : Int := mustTo rs xs rs.length

set_option maxHeartbeats 2000000 in
theorem l3Must_any (B B' : Nat) (v v' : Value) (rs : List Ru) (xs : List Int) (w : World) (h0 : HRules B w v rs) (h1 : HInts B' w v' xs) (hg : ∀ i, i < rs.length → 2 ≤ (rat rs i).seq.length) :
    Calls Try.prog 32 #[v, v'] w fun e w' => e = .returned (.int .i64 (mustS rs xs)) ∧ Nx w w' := by
  have HX : Hid (HInts B' w v' xs) := h1
  have HGD : Hid (∀ i, i < rs.length → 2 ≤ (rat rs i).seq.length) := hg
  clear hg
  obtain ⟨a, cap, rfl, hn, hk⟩ := h0
  obtain ⟨a', cap', rfl, hn', _⟩ := h1
  unfold maxLen at hn hn'
  generalize hz : rs.length = n at *
  have HZ : Hid (rs.length = n) := hz
  clear hz
  go_enter Try.func32, Try.ntmps32
  go_wp2
  go_loopw [5, 6, 7, 8] (fun m i _ _ wr => ∃ k : Nat, k ≤ n ∧ i = .int .i64 k ∧ m = .int .i64 (mustTo rs xs k) ∧ Hid (Nx w wr)) (fun _ i _ _ _ => n - (intOf i).toNat)
  case atStart => exact ⟨0, Nat.zero_le _, rfl, rfl, Nx.refl _⟩
  obtain ⟨k, hkm, rfl, rfl, HN⟩ := hrel
  by_cases hlt : k < n
  case neg =>
    have ek : n = k := by omega
    subst ek
    have HF : Hid (mustTo rs xs n = mustS rs xs) := by unfold Hid mustS; rw [HZ.out]
    clear hlt
    go_wp2
    go_ret
    exact ⟨ret_int HF.out, HN.out⟩
  obtain ⟨b, off, rfl, _, hb, hc⟩ := hk (by omega)
  obtain ⟨sa, sc, c0, c1, c2, hS, hcap⟩ := hc k hlt
  have c1 := cell_next HN.out hb c1
  have c2 := cell_next HN.out hb c2
  have hlt' : (k : Int) < n := by omega
  have h2 := HGD.out k hlt
  have HS : Hid (HInts B w (.slice sa (rat rs k).seq.length sc) (rat rs k).seq) := hS
  have HMT : Hid (mustTo rs xs (k + 1) = if mustAt (rat rs k) xs = true then joinM (mustTo rs xs k) (iat (rat rs k).seq ((rat rs k).seq.length - 1)) else mustTo rs xs k) := rfl
  have HMA : Hid (mustAt (rat rs k) xs = ((rat rs k).only && sufB ((rat rs k).seq.take ((rat rs k).seq.length - 1)) xs)) := rfl
  obtain ⟨sa', sc', e', hsn, hsk⟩ := hS
  simp only [Value.slice.injEq] at e'
  obtain ⟨rfl, _, rfl⟩ := e'
  unfold maxLen at hsn
  generalize rat rs k = x at *
  generalize hq : x.seq.length = q at *
  clear hq
  obtain ⟨p, rfl⟩ : ∃ p, q = p + 1 := ⟨q - 1, by omega⟩
  rw [Nat.add_sub_cancel] at HMT HMA
  obtain ⟨b', off', rfl, _, hb', hc'⟩ := hsk (by omega)
  have z0 := cell_next HN.out hb' (hc' p (by omega))
  have w1 : IntKind.i64.wrap ((p : Int) + 1 - 1) = (p : Int) := by rw [IntKind.wrap_i64]; omega
  have w2 : ((p : Int) + 1 - 1) = (p : Int) := by omega
  have hp1 : (p : Int) < (p : Int) + 1 := by omega
  have hp2 : (p : Int) ≤ sc := by omega
  have wp := wrapJ p (by omega)
  clear hc hk c0 hc' hsk
  generalize iat x.seq p = l at *
  generalize mustTo rs xs k = m at *
  cases g1 : x.only
  case false =>
    have HF : Hid (mustTo rs xs (k + 1) = m) := by unfold Hid; rw [HMT.out, HMA.out, g1]; rfl
    rw [g1] at c1
    clear g1
    go_wp2
    go_roundw
    case rel => exact ⟨k + 1, by omega, by go_num, by rw [HF.out], HN⟩
    case measure => simp [intOf]; omega
  rw [g1] at c1 HMA
  clear g1
  go_wp2_with fail
  refine (l2Suffix_any B' B _ _ xs (x.seq.take p) _ (by exact HX.out.next HN.out) (by exact (HS.out.take (Nat.le_succ _) _).next HN.out)).mono ?_
  rintro e w1 ⟨rfl, hx⟩
  have HN1 : Hid (Nx w w1) := HN.out.trans hx
  have c2 := cellq' hx c2
  have z0 := cellq' hx z0
  clear hx c1
  cases g2 : sufB (x.seq.take p) xs
  case false =>
    have HF : Hid (mustTo rs xs (k + 1) = m) := by unfold Hid; rw [HMT.out, HMA.out, g2]; rfl
    clear g2
    go_wp2
    go_roundw
    case rel => exact ⟨k + 1, by omega, by go_num, by rw [HF.out], HN1⟩
    case measure => simp [intOf]; omega
  have HF : Hid (mustTo rs xs (k + 1) = joinM m l) := by unfold Hid; rw [HMT.out, HMA.out, g2]; rfl
  have HJ : Hid (joinM m l = if m = -1 ∨ m = l then l else -2) := rfl
  clear g2 HMT HMA
  by_cases g3 : m = -1
  · have f3 : (m == -1) = true := by simpa using g3
    have HF2 : Hid (mustTo rs xs (k + 1) = l) := by unfold Hid; rw [HF.out, HJ.out, if_pos (Or.inl g3)]
    clear g3
    go_wp2
    go_roundw
    case rel => exact ⟨k + 1, by omega, by go_num, by rw [HF2.out], HN1⟩
    case measure => simp [intOf]; omega
  have f3 : (m == -1) = false := by simpa using g3
  by_cases g4 : m = l
  · have f4 : (m == l) = true := by simpa using g4
    have HF2 : Hid (mustTo rs xs (k + 1) = l) := by unfold Hid; rw [HF.out, HJ.out, if_pos (Or.inr g4)]
    clear g3 g4
    go_wp2
    go_roundw
    case rel => exact ⟨k + 1, by omega, by go_num, by rw [HF2.out], HN1⟩
    case measure => simp [intOf]; omega
  · have f4 : (m == l) = false := by simpa using g4
    have HF2 : Hid (mustTo rs xs (k + 1) = -2) := by unfold Hid; rw [HF.out, HJ.out, if_neg (by rintro (h | h); exact g3 h; exact g4 h)]
    clear g3 g4
    go_wp2
    go_roundw
    case rel => exact ⟨k + 1, by omega, by go_num, by rw [HF2.out], HN1⟩
    case measure => simp [intOf]; omega
end Go.Proofs.Ytifefpeefcjabaa
