import Derived.Test.YtdjmlpgdaanipaaHE
import Derived.Test.YtdjmlpgdaanipaaGT
namespace Go.Proofs.Ytdjmlpgdaanipaa
open Go.RowKit
set_option linter.unusedVariables false
set_option maxRecDepth 100000

/-- where the search stands: what lies below lo is smaller, what lies from hi on is not -/
def Mid (f : Nat → Int) (n : Nat) (t : Int) (lo hi : Nat) : Prop := lo ≤ hi ∧ hi ≤ n ∧ (∀ i, i < lo → f i < t) ∧ (∀ i, hi ≤ i → i < n → t ≤ f i)
theorem mid_start (f : Nat → Int) (n : Nat) (t : Int) : Mid f n t 0 n := ⟨Nat.zero_le _, Nat.le_refl _, fun i hi => absurd hi (Nat.not_lt_zero _), fun i h1 h2 => by omega⟩
theorem mid_up {f : Nat → Int} {n : Nat} {t : Int} {lo hi h : Nat} (hm : ∀ i j, i < j → j < n → f i < f j) (H : Mid f n t lo hi) (h1 : h < hi) (hf : f h < t) (h0 : lo ≤ h) : Mid f n t (h + 1) hi := by
  obtain ⟨a, b, c, d⟩ := H
  refine ⟨by omega, b, fun i hi' => ?_, d⟩
  by_cases e : i = h
  · subst e; exact hf
  · have := hm i h (by omega) (by omega); omega
theorem mid_down {f : Nat → Int} {n : Nat} {t : Int} {lo hi h : Nat} (hm : ∀ i j, i < j → j < n → f i < f j) (H : Mid f n t lo hi) (h1 : h < hi) (hf : ¬ f h < t) (h0 : lo ≤ h) : Mid f n t lo h := by
  obtain ⟨a, b, c, d⟩ := H
  refine ⟨by omega, by omega, c, fun i hi' hn => ?_⟩
  by_cases e : i = h
  · subst e; omega
  · have := hm h i (by omega) hn; omega

theorem ret_ib {r : Int} {a b : Bool} (h : a = b) : Ending.returned (.tuple #[.int .i64 r, .bool a]) = .returned (.tuple #[.int .i64 r, .bool b]) := by rw [h]
theorem u64_wrap (n : Int) : IntKind.u64.wrap n = n % 18446744073709551616 := by simp [IntKind.wrap, IntKind.bits, IntKind.signed]
theorem halve (lo hi : Nat) (h1 : lo < hi) (h2 : hi ≤ 9223372036854775807) : ∃ h : Nat, wrap64 (IntKind.u64.wrap (wrap64 ((lo : Int) + (hi : Int))) / 2) = (h : Int) ∧ lo ≤ h ∧ h < hi := by
  refine ⟨(lo + hi) / 2, ?_, by omega, by omega⟩
  rw [u64_wrap]
  unfold wrap64
  omega


theorem ret_ib2 {r s : Int} {a b : Bool} (h0 : r = s) (h : a = b) : Ending.returned (.tuple #[.int .i64 r, .bool a]) = .returned (.tuple #[.int .i64 s, .bool b]) := by rw [h0, h]
set_option maxHeartbeats 1000000 in
theorem toEdge_any (B gb x : Nat) (t : Int) (v0 v1 v2 v3 v4 v5 v6 : Value) (zs : List Int) (w : World) (hb : Blk w gb #[v0, v1, v2, v3, v4, v5, v6]) (h0 : HInts B w v0 zs) (hx : x < zs.length) :
    Calls Try.prog 47 #[.int .i64 x, .int .i64 t, .pointer (some ⟨gb, 0, none⟩)] w fun e w' => e = .returned (.int .i64 (cmpI (iat zs x) t)) ∧ w' = w := by
  obtain ⟨a, cap, rfl, hn, hk⟩ := h0
  unfold maxLen at hn
  generalize zs.length = n at *
  obtain ⟨b, off, rfl, _, hbb, hc⟩ := hk (by omega)
  have c0 := hc x hx
  have k0 : w.cell? ⟨gb, 0, none⟩ = some (.slice (some ⟨b, off, none⟩) n cap) := hb.cell (i := 0) rfl
  have hx' : (x : Int) < n := by omega
  clear hc hk hb
  go_enter Try.func47, Try.ntmps47
  go_wp2_with (go_at_call 43; refine (cmp_any _ _ _).mono ?_; rintro e w' ⟨rfl, rfl⟩)
  go_ret
  exact ⟨rfl, rfl⟩

def keyG (G : Gr) (zs : List Int) (i : Nat) : Int := iat G.eo (iat zs i).toNat

def BsE (G : Gr) (zs : List Int) (n : Nat) (t : Int) (e : Ending) : Prop := ∃ (r : Nat) (f : Bool), e = .returned (.tuple #[.int .i64 r, .bool f]) ∧ Mid (keyG G zs) n t r r ∧ f = (decide (r < n) && (keyG G zs r == t))

set_option maxHeartbeats 2000000 in
theorem binS_any (B B' gb : Nat) (v v0 v1 v2 v3 v4 v5 v6 : Value) (G : Gr) (zs : List Int) (t : Int) (w : World) (h0 : HInts B w v zs) (hb : Blk w gb #[v0, v1, v2, v3, v4, v5, v6]) (he : HInts B' w v0 G.eo) (hz : ∀ i, i < zs.length → 0 ≤ iat zs i ∧ iat zs i < G.eo.length)
    (hm : ∀ i j, i < j → j < zs.length → keyG G zs i < keyG G zs j) :
    Calls Try.prog 46 #[v, .int .i64 t, (.func (.func 47) #[] #[.pointer (some ⟨gb, 0, none⟩)])] w fun e w' => BsE G zs zs.length t e ∧ w' = w := by
  have HM : Hid (∀ i j, i < j → j < zs.length → keyG G zs i < keyG G zs j) := hm
  obtain ⟨a, cap, rfl, hn, hk⟩ := h0
  unfold maxLen at hn
  have HI : Hid (∀ i, i < zs.length → ∃ u : Nat, iat zs i = (u : Int) ∧ u < G.eo.length ∧ keyG G zs i = iat G.eo u) := fun i hi => ⟨(iat zs i).toNat, by have := hz i hi; omega, by have := hz i hi; omega, rfl⟩
  have HC : Hid (∀ x : Nat, x < G.eo.length → Calls Try.prog 47 #[.int .i64 x, .int .i64 t, .pointer (some ⟨gb, 0, none⟩)] w fun e w' => e = .returned (.int .i64 (cmpI (iat G.eo x) t)) ∧ w' = w) :=
    fun x hx => toEdge_any B' gb x t v0 v1 v2 v3 v4 v5 v6 G.eo w hb he hx
  clear hb he hz hm
  generalize hz : zs.length = n at *
  clear hz
  go_enter Try.func46, Try.ntmps46
  go_wp2
  go_loop [9, 10, 11] (fun i j h => ∃ lo hi : Nat, lo ≤ hi ∧ hi ≤ n ∧ i = .int .i64 lo ∧ j = .int .i64 hi ∧ Hid (Mid (keyG G zs) n t lo hi)) (fun i j _ => (intOf j).toNat - (intOf i).toNat)
  case atStart => exact ⟨0, n, Nat.zero_le _, Nat.le_refl _, rfl, rfl, mid_start _ _ _⟩
  case round =>
    obtain ⟨lo, hi, h1, h2, rfl, rfl, hrel⟩ := hrel
    by_cases hlt : lo < hi
    · obtain ⟨b, off, rfl, hB, hb, hc⟩ := hk (by omega)
      obtain ⟨h, hh, hh1, hh2⟩ := halve lo hi hlt (by omega)
      have hcc : w.cell? ⟨b, off + h, none⟩ = some (.int .i64 (iat zs h)) := hc h (by omega)
      obtain ⟨x, hx, hxn, hxk⟩ := HI.out h (by omega)
      rw [hx] at hcc
      have CG : Hid (Calls Try.prog 47 #[.int .i64 x, .int .i64 t, .pointer (some ⟨gb, 0, none⟩)] w fun e w' => e = .returned (.int .i64 (cmpI (keyG G zs h) t)) ∧ w' = w) := by unfold Hid; rw [hxk]; exact HC.out x hxn
      have hhn : (h : Int) < n := by omega
      clear hc hk hx hxn hxk
      by_cases hab : keyG G zs h < t
      · have HM' : Hid (Mid (keyG G zs) n t (h + 1) hi) := mid_up HM.out hrel.out hh2 hab hh1
        have hd : decide (cmpI (keyG G zs h) t < 0) = true := by rw [cmpI_neg]; simp [hab]
        clear hab
        go_wp2_with (go_at_call 47; refine CG.out.mono ?_; rintro e w' ⟨rfl, rfl⟩)
        go_round
        case rel => exact ⟨h + 1, hi, by omega, by omega, by go_num, rfl, HM'⟩
        case measure => simp [intOf]; omega
      · have HM' : Hid (Mid (keyG G zs) n t lo h) := mid_down HM.out hrel.out hh2 hab hh1
        have hd : decide (cmpI (keyG G zs h) t < 0) = false := by rw [cmpI_neg]; simp [hab]
        clear hab
        go_wp2_with (go_at_call 47; refine CG.out.mono ?_; rintro e w' ⟨rfl, rfl⟩)
        go_round
        case rel => exact ⟨lo, h, by omega, by omega, rfl, rfl, HM'⟩
        case measure => simp [intOf]; omega
    · have e : hi = lo := by omega
      subst e
      by_cases hl : hi < n
      · obtain ⟨b, off, rfl, hB, hb, hc⟩ := hk (by omega)
        have hcc : w.cell? ⟨b, off + hi, none⟩ = some (.int .i64 (iat zs hi)) := hc hi hl
        obtain ⟨x, hx, hxn, hxk⟩ := HI.out hi hl
        rw [hx] at hcc
        have CG : Hid (Calls Try.prog 47 #[.int .i64 x, .int .i64 t, .pointer (some ⟨gb, 0, none⟩)] w fun e w' => e = .returned (.int .i64 (cmpI (keyG G zs hi) t)) ∧ w' = w) := by unfold Hid; rw [hxk]; exact HC.out x hxn
        have hln : (hi : Int) < n := by omega
        clear hc hk hx hxn hxk
        have HF : Hid ((cmpI (keyG G zs hi) t == 0) = (decide (hi < n) && (keyG G zs hi == t))) := by unfold Hid; rw [cmpI_zero]; simp [hl]
        go_wp2_with (go_at_call 47; refine CG.out.mono ?_; rintro e w' ⟨rfl, rfl⟩)
        go_ret2
        exact ⟨⟨hi, _, rfl, hrel.out, HF.out⟩, rfl⟩
      · have hd : decide ((hi : Int) < n) = false := by simp; omega
        go_wp2
        go_ret2
        exact ⟨⟨hi, _, rfl, hrel.out, by simp [hl]⟩, rfl⟩

/-- what the search for an arc tells -/
def ArcT (G : Gr) (v : Nat) (t r : Int) (f : Bool) : Prop :=
  (f = true → ∃ a : Nat, r = (a : Int) ∧ fst G v ≤ a ∧ a < fst G (v + 1) ∧ goal G a = t) ∧ (f = false → ∀ a, fst G v ≤ a → a < fst G (v + 1) → goal G a ≠ t)
theorem tw_vg {G : Gr} (h : VG G) : TW G := ⟨h.v, h.t, h.lf, h.fi, h.fm, h.tt⟩
theorem goal_mono {G : Gr} (h : VG G) {v : Nat} (hv : v < G.eo.length) {i j : Nat} (h1 : fst G v ≤ i) (hij : i < j) (h2 : j < fst G (v + 1)) : goal G i < goal G j := by
  have E0 := fst_eq h (v := v) (by omega)
  have E1 := fst_eq h (v := v + 1) (by omega)
  induction j with
  | zero => omega
  | succ j ih =>
    have h3 := h.asc v hv (j + 1) (by omega) (by omega)
    rw [Nat.add_sub_cancel] at h3
    by_cases e : i = j
    · subst e; exact h3
    · have := ih (by omega) (by omega); omega
theorem arcT_of {G : Gr} (h : VG G) {v : Nat} (hv : v < G.eo.length) {t : Int} {r : Nat} {f : Bool} (hM : Mid (keyG G (seg G.tt (fsA G v) (fsA G (v + 1)))) (seg G.tt (fsA G v) (fsA G (v + 1))).length t r r)
    (hf : f = (decide (r < (seg G.tt (fsA G v) (fsA G (v + 1))).length) && (keyG G (seg G.tt (fsA G v) (fsA G (v + 1))) r == t))) : ArcT G v t ((fsA G v : Int) + r) f := by
  have E0 := fsA_eq (tw_vg h) (v := v) (by omega)
  have E1 := fsA_eq (tw_vg h) (v := v + 1) (by omega)
  have E2 := fsA_le (tw_vg h) hv
  have hl := seg_len (p := fsA G v) E1.2
  rw [hl] at hM hf
  have key : ∀ i, i < fsA G (v + 1) - fsA G v → keyG G (seg G.tt (fsA G v) (fsA G (v + 1))) i = goal G (fsA G v + i) := fun i hi => by unfold keyG goal; rw [seg_at hi]
  obtain ⟨m1, m2, m3, m4⟩ := hM
  constructor
  · intro e
    rw [e, eq_comm, Bool.and_eq_true, decide_eq_true_eq, beq_iff_eq] at hf
    refine ⟨fsA G v + r, by omega, Nat.le_add_right _ _, by show fsA G v + r < fsA G (v + 1); omega, ?_⟩
    rw [← key r hf.1]; exact hf.2
  · intro e a ha1 ha2 hg
    have ha1' : fsA G v ≤ a := ha1
    have ha2' : a < fsA G (v + 1) := ha2
    rw [e] at hf
    obtain ⟨i, rfl⟩ : ∃ i, a = fsA G v + i := ⟨a - fsA G v, by omega⟩
    rw [← key i (by omega)] at hg
    by_cases c1 : i < r
    · have := m3 i c1; omega
    · by_cases c2 : i = r
      · subst c2
        rw [eq_comm, Bool.and_eq_false_iff, decide_eq_false_iff_not] at hf
        rcases hf with h1 | h1
        · omega
        · simp [hg] at h1
      · have h3 := m4 r (Nat.le_refl _) (by omega)
        have h4 := goal_mono h hv (i := fsA G v + r) (j := fsA G v + i) (Nat.le_add_right _ _) (by omega) ha2
        rw [← key r (by omega), ← key i (by omega)] at h4
        omega

/-- how many of the first n lie below t -/
def posM (f : Nat → Int) (t : Int) : Nat → Nat
  | 0 => 0
  | n + 1 => posM f t n + (if f n < t then 1 else 0)
theorem mid_pos' {f : Nat → Int} {n : Nat} {t : Int} {r : Nat} (h : Mid f n t r r) : ∀ m, m ≤ n → posM f t m = min m r := by
  obtain ⟨m1, m2, m3, m4⟩ := h
  intro m
  induction m with
  | zero => intro _; simp [posM]
  | succ m ih =>
    intro hm
    unfold posM
    rw [ih (by omega)]
    by_cases c : m < r
    · rw [if_pos (m3 m c)]; omega
    · have := m4 m (by omega) (by omega)
      rw [if_neg (by omega)]; omega
theorem mid_pos {f : Nat → Int} {n : Nat} {t : Int} {r : Nat} (h : Mid f n t r r) : r = posM f t n := by
  have := mid_pos' h n (Nat.le_refl _)
  have := h.2.1
  omega
theorem mid_ex {f : Nat → Int} {t : Int} : ∀ n, (∀ i j, i < j → j < n → f i < f j) → ∃ r, Mid f n t r r := by
  intro n
  induction n with
  | zero => intro _; exact ⟨0, Nat.le_refl _, Nat.le_refl _, fun i hi => absurd hi (Nat.not_lt_zero _), fun i _ hi => absurd hi (Nat.not_lt_zero _)⟩
  | succ n ih =>
    intro hm
    obtain ⟨r, m1, m2, m3, m4⟩ := ih fun i j hij hj => hm i j hij (by omega)
    by_cases c : r < n
    · refine ⟨r, Nat.le_refl _, by omega, m3, fun i hi hn => ?_⟩
      by_cases e : i < n
      · exact m4 i hi e
      · have h1 := m4 r (Nat.le_refl _) c
        have h2 := hm r i (by omega) hn
        omega
    · have e : r = n := by omega
      subst e
      by_cases c2 : f r < t
      · refine ⟨r + 1, Nat.le_refl _, Nat.le_refl _, fun i hi => ?_, fun i hi hn => by omega⟩
        by_cases e : i = r
        · subst e; exact c2
        · exact m3 i (by omega)
      · refine ⟨r, Nat.le_refl _, by omega, m3, fun i hi hn => ?_⟩
        have e : i = r := by omega
        subst e; omega
def sgG (G : Gr) (v : Nat) : List Int := seg G.tt (fsA G v) (fsA G (v + 1))
def arcP (G : Gr) (v : Nat) (t : Int) : Nat := posM (keyG G (sgG G v)) t (sgG G v).length
def arcR (G : Gr) (v : Nat) (t : Int) : Int := (fsA G v : Int) + arcP G v t
def arcF (G : Gr) (v : Nat) (t : Int) : Bool := decide (arcP G v t < (sgG G v).length) && (keyG G (sgG G v) (arcP G v t) == t)
theorem key_mono {G : Gr} (hG : VG G) {v : Nat} (hv : v < G.eo.length) : ∀ i j, i < j → j < (sgG G v).length → keyG G (sgG G v) i < keyG G (sgG G v) j := by
  intro i j hij hj
  have E1 := fsA_eq (tw_vg hG) (v := v + 1) (by omega)
  unfold sgG at hj
  rw [seg_len E1.2] at hj
  unfold keyG sgG
  rw [seg_at (by omega), seg_at hj]
  exact goal_mono hG hv (i := fsA G v + i) (j := fsA G v + j) (Nat.le_add_right _ _) (by omega) (by show fsA G v + j < fsA G (v + 1); omega)
theorem arcT_at {G : Gr} (h : VG G) {v : Nat} (hv : v < G.eo.length) (t : Int) : ArcT G v t (arcR G v t) (arcF G v t) := by
  obtain ⟨r, hr⟩ := mid_ex (f := keyG G (sgG G v)) (t := t) (sgG G v).length (key_mono h hv)
  have e : r = arcP G v t := mid_pos hr
  rw [e] at hr
  exact arcT_of h hv hr rfl

set_option maxHeartbeats 4000000 in
theorem arcTo_any (B : Nat) (v0 v1 v2 v3 v4 v5 v6 : Value) (G : Gr) (v : Nat) (t : Int) (w : World) (h0 : HG B w v0 v1 v2 v3 v4 v5 v6 G) (hG : VG G) (hv : v < G.eo.length) :
    Calls Try.prog 33 #[.agg #[v0, v1, v2, v3, v4, v5, v6], .int .i64 v, .int .i64 t] w fun e w' => e = .returned (.tuple #[.int .i64 (arcR G v t), .bool (arcF G v t)]) ∧ Nx w w' := by
  have HG0 : Hid (VG G) := hG
  have E0 := fsA_eq (tw_vg hG) (v := v) (by omega)
  have E1 := fsA_eq (tw_vg hG) (v := v + 1) (by omega)
  have hlf := hG.lf
  have hvv := hG.v
  have htt := hG.t
  have HV : Hid (v < G.eo.length) := hv
  have HSL : Hid ((sgG G v).length = fsA G (v + 1) - fsA G v) := seg_len E1.2
  have HSI : Hid (∀ i, i < (sgG G v).length → 0 ≤ iat (sgG G v) i ∧ iat (sgG G v) i < G.eo.length) := by
    intro i hi
    rw [show (sgG G v).length = _ from seg_len E1.2] at hi
    unfold sgG
    rw [seg_at hi]
    exact hG.tt _ (by omega)
  have HSM : Hid (∀ i j, i < j → j < (sgG G v).length → keyG G (sgG G v) i < keyG G (sgG G v) j) := key_mono hG hv
  have HAR : Hid (arcR G v t = (fsA G v : Int) + arcP G v t) := rfl
  have HAF : Hid (arcF G v t = (decide (arcP G v t < (sgG G v).length) && (keyG G (sgG G v) (arcP G v t) == t))) := rfl
  have HAP : Hid (∀ r, Mid (keyG G (sgG G v)) (sgG G v).length t r r → r = arcP G v t) := fun r h => mid_pos h
  clear hG
  have HH : Hid (HG B w v0 v1 v2 v3 v4 v5 v6 G) := h0
  obtain ⟨⟨a0, c0, rfl, hn0, hk0⟩, ⟨a1, c1, rfl, hn1, hk1⟩, ⟨a2, c2, rfl, hn2, hk2⟩, ⟨a3, c3, rfl, hn3, hk3⟩, ⟨a4, c4, rfl, hn4, hk4⟩, ⟨a5, c5, rfl, hn5, hk5⟩, ⟨a6, c6, rfl, hn6, hk6⟩⟩ := h0
  have HM0 : Hid (G.eo.length ≤ maxLen) := hn0
  have HM5 : Hid (G.sr.length ≤ maxLen) := hn5
  unfold maxLen at hn0 hn1 hn2 hn3 hn4 hn5 hn6
  generalize hz0 : G.eo.length = n0 at *
  have Z0 : Hid (G.eo.length = n0) := hz0
  clear hz0
  generalize hz1 : G.so.length = n1 at *
  have Z1 : Hid (G.so.length = n1) := hz1
  clear hz1
  generalize hz2 : G.fi.length = n2 at *
  have Z2 : Hid (G.fi.length = n2) := hz2
  clear hz2
  generalize hz3 : G.tt.length = n3 at *
  have Z3 : Hid (G.tt.length = n3) := hz3
  clear hz3
  generalize hz4 : G.co.length = n4 at *
  have Z4 : Hid (G.co.length = n4) := hz4
  clear hz4
  generalize hz5 : G.sr.length = n5 at *
  have Z5 : Hid (G.sr.length = n5) := hz5
  clear hz5
  generalize hz6 : G.we.length = n6 at *
  have Z6 : Hid (G.we.length = n6) := hz6
  clear hz6
  subst hlf
  obtain ⟨b2, o2, rfl, _, hb2, hc2⟩ := hk2 (by omega)
  have hx0' : w.cell? ⟨b2, o2 + v, none⟩ = some (.int .i64 (iat G.fi v)) := hc2 v (by omega)
  rw [E0.1] at hx0'
  have HX0 : Hid (w.cell? ⟨b2, o2 + v, none⟩ = some (.int .i64 (fsA G v : Int))) := hx0'
  have i2 : (v : Int) < (n0 : Int) + 1 := by omega
  have hb2' : Hid (b2 < w.heap.size) := hb2
  have HP : Hid (fsA G v ≤ n3) := E0.2
  have HQ3 : Hid (fsA G (v + 1) ≤ n3) := E1.2
  clear hx0' hc2 hk0 hk1 hk2 hk3 hk4 hk5 hk6 E0 E1 hb2
  go_enter Try.func33, Try.ntmps33
  go_wp2_with fail
  refine (targets_any B _ _ _ _ _ _ _ G v _ (by exact HH.out.next (box1 _ _)) (tw_vg HG0.out) (by rw [Z0.out]; exact HV.out)).mono ?_
  rintro e w1 ⟨⟨ta, tn, tc, rfl, hS⟩, hx⟩
  have HW1 : Hid (Nx w w1) := (box1 _ _).trans hx
  have BA : Blk w1 w.heap.size #[.slice a0 n0 c0, .slice a1 n1 c1, .slice (some ⟨b2, o2, none⟩) (n0 + 1) c2, .slice a3 n3 c3, .slice a4 n4 c4, .slice a5 n5 c5, .slice a6 n6 c6] := (Blk.new w _ 27 _ rfl).next hx
  have k2 := BA.cell (i := 2) rfl
  have x0 := cell_next HW1.out hb2'.out HX0.out
  have HBA : Hid (Blk w1 w.heap.size #[.slice a0 n0 c0, .slice a1 n1 c1, .slice (some ⟨b2, o2, none⟩) (n0 + 1) c2, .slice a3 n3 c3, .slice a4 n4 c4, .slice a5 n5 c5, .slice a6 n6 c6]) := BA
  clear hx BA
  have hS2 : HInts B w1 (.slice ta tn tc) (sgG G v) := hS
  clear hS
  generalize sgG G v = sg at *
  generalize fsA G v = p at *
  have hp := HP.out
  have HS : Hid (HInts B w1 (.slice ta tn tc) sg) := hS2
  clear hS2
  go_wp2_with fail
  refine (binS_any B B w.heap.size _ (.slice a0 n0 c0) (.slice a1 n1 c1) (.slice (some ⟨b2, o2, none⟩) (n0 + 1) c2) (.slice a3 n3 c3) (.slice a4 n4 c4) (.slice a5 n5 c5) (.slice a6 n6 c6) G sg t _ (by exact HS.out) (by exact HBA.out) (by exact HH.out.h0.next HW1.out) (by rw [Z0.out]; exact HSI.out) HSM.out).mono ?_
  rintro e w2 ⟨⟨r, f, rfl, hM, hf⟩, rfl⟩
  have HRE : Hid (arcR G v t = (p : Int) + r) := by unfold Hid; rw [HAR.out, HAP.out r hM]
  have HFE : Hid (arcF G v t = f) := by unfold Hid; rw [HAF.out, ← HAP.out r hM, hf]
  have hr : r ≤ n3 := by
    have h1 := hM.2.1
    have h2 := HSL.out
    have h3 := HQ3.out
    omega
  have hwr : IntKind.i64.wrap ((p : Int) + r) = (p : Int) + r := by rw [IntKind.wrap_i64]; omega
  clear hM hf HSI HSM HSL HAP HAR HAF
  go_wp2
  go_ret2
  exact ⟨ret_ib2 HRE.out.symm HFE.out.symm, HW1.out⟩
end Go.Proofs.Ytdjmlpgdaanipaa
