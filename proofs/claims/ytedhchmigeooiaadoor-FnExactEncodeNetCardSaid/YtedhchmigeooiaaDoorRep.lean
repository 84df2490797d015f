import Derived.Test.YtedhchmigeooiaaDoorLeaf
namespace Go.Proofs.YtedhchmigeooiaaDoor
open Go.RowKit
set_option linter.unusedVariables false

structure Wy where
  id : Int
  both : Bool
  nodes : List Int
  weights : List Int
structure Rl where
  id : Int
  only : Bool
  frm : Int
  to : Int
  via : Bool
  node : Int
  ways : List Int
structure Tn where
  frm : Int
  to : Int
  cost : Int
structure Nt where
  nodes : List Int
  ways : List Wy
  rels : List Rl
  turns : List Tn
  uturn : Int

/-- the i-th of a list; named, so that no simp looks inside -/
def iat (zs : List Int) (i : Nat) : Int := zs.getD i 0
def wat (xs : List Wy) (i : Nat) : Wy := xs.getD i ⟨0, false, [], []⟩
def rat (xs : List Rl) (i : Nat) : Rl := xs.getD i ⟨0, false, 0, 0, false, 0, []⟩
def tat (xs : List Tn) (i : Nat) : Tn := xs.getD i ⟨0, 0, 0⟩
theorem iat_eq {zs : List Int} {i : Nat} (h : i < zs.length) : iat zs i = zs[i] := by simp [iat, List.getD, h]
theorem wat_eq {zs : List Wy} {i : Nat} (h : i < zs.length) : wat zs i = zs[i] := by simp [wat, List.getD, h]
theorem rat_eq {zs : List Rl} {i : Nat} (h : i < zs.length) : rat zs i = zs[i] := by simp [rat, List.getD, h]
theorem tat_eq {zs : List Tn} {i : Nat} (h : i < zs.length) : tat zs i = zs[i] := by simp [tat, List.getD, h]

/-- a slice value over n elements, each of which is held by its cells -/
def HSlice (B : Nat) (w : World) (v : Value) (n : Nat) (P : Nat → Nat → Nat → Prop) : Prop :=
  ∃ a cap, v = .slice a n cap ∧ n ≤ maxLen ∧ (0 < n → ∃ b off, a = some ⟨b, off, none⟩ ∧ B ≤ b ∧ b < w.heap.size ∧ ∀ i, i < n → P b off i)

def HInts (B : Nat) (w : World) (v : Value) (zs : List Int) : Prop :=
  HSlice B w v zs.length fun b off i => w.cell? ⟨b, off + i, none⟩ = some (.int .i64 (iat zs i))

def HWay (B : Nat) (w : World) (b o : Nat) (x : Wy) : Prop :=
  ∃ vn vw, w.cell? ⟨b, o, none⟩ = some (.int .i64 x.id) ∧ w.cell? ⟨b, o + 1, none⟩ = some (.bool x.both) ∧ w.cell? ⟨b, o + 2, none⟩ = some vn ∧ w.cell? ⟨b, o + 3, none⟩ = some vw ∧
    HInts B w vn x.nodes ∧ HInts B w vw x.weights
def HWays (B : Nat) (w : World) (v : Value) (xs : List Wy) : Prop :=
  HSlice B w v xs.length fun b off i => HWay B w b (off + i * 4) (wat xs i)

def HRel (B : Nat) (w : World) (b o : Nat) (x : Rl) : Prop :=
  ∃ vw, w.cell? ⟨b, o, none⟩ = some (.int .i64 x.id) ∧ w.cell? ⟨b, o + 1, none⟩ = some (.bool x.only) ∧ w.cell? ⟨b, o + 2, none⟩ = some (.int .i64 x.frm) ∧ w.cell? ⟨b, o + 3, none⟩ = some (.int .i64 x.to) ∧
    w.cell? ⟨b, o + 4, none⟩ = some (.bool x.via) ∧ w.cell? ⟨b, o + 5, none⟩ = some (.int .i64 x.node) ∧ w.cell? ⟨b, o + 6, none⟩ = some vw ∧ HInts B w vw x.ways
def HRels (B : Nat) (w : World) (v : Value) (xs : List Rl) : Prop :=
  HSlice B w v xs.length fun b off i => HRel B w b (off + i * 7) (rat xs i)

def HTurn (w : World) (b o : Nat) (x : Tn) : Prop :=
  w.cell? ⟨b, o, none⟩ = some (.int .i64 x.frm) ∧ w.cell? ⟨b, o + 1, none⟩ = some (.int .i64 x.to) ∧ w.cell? ⟨b, o + 2, none⟩ = some (.int .i64 x.cost)
def HTurns (B : Nat) (w : World) (v : Value) (xs : List Tn) : Prop :=
  HSlice B w v xs.length fun b off i => HTurn w b (off + i * 3) (tat xs i)

def HNet (B : Nat) (w : World) (v0 v1 v2 v3 : Value) (N : Nt) : Prop :=
  HInts B w v0 N.nodes ∧ HWays B w v1 N.ways ∧ HRels B w v2 N.rels ∧ HTurns B w v3 N.turns

/-- the next world keeps every block below -/
abbrev Nx (w w' : World) : Prop := Below w.heap.size w w'

theorem Nx.trans {a b c : World} (h : Nx a b) (k : Nx b c) : Nx a c := Below.trans h (Below.mono k h.size)
theorem Nx.drew {a b : World} (h : Nx a b) : Nx a b.drew := Below.drew h
theorem Nx.alloc {a b : World} (h : Nx a b) (o : Obj) : Nx a (b.alloc o) := Below.alloc h h.size o

theorem cell_lt {w : World} {b o : Nat} {v : Value} (h : w.cell? ⟨b, o, none⟩ = some v) : b < w.heap.size := by
  rcases Nat.lt_or_ge b w.heap.size with hlt | hge
  · exact hlt
  · have hn : w.heap[b]? = none := Array.getElem?_eq_none hge
    simp [World.cell?, hn] at h

theorem cell_next {B : Nat} {w w' : World} (hx : Below B w w') {b o : Nat} (hB : b < B) {v : Value} (h : w.cell? ⟨b, o, none⟩ = some v) : w'.cell? ⟨b, o, none⟩ = some v :=
  (hx.cell (p := ⟨b, o, none⟩) hB).trans h

/-- 'Keeps B w w'': every block from B on that was there is as it was. -/
def Keeps (B : Nat) (w w' : World) : Prop := w.heap.size ≤ w'.heap.size ∧ ∀ b, B ≤ b → b < w.heap.size → ∀ o, w'.cell? ⟨b, o, none⟩ = w.cell? ⟨b, o, none⟩

theorem Nx.keeps {w w' : World} (h : Nx w w') (B : Nat) : Keeps B w w' := ⟨h.size, fun b _ hb o => h.cell (p := ⟨b, o, none⟩) hb⟩

theorem HSlice.mono {B B' : Nat} {w w' : World} {v : Value} {n : Nat} {P Q : Nat → Nat → Nat → Prop} (h : HSlice B w v n P) (hB : B' ≤ B) (hw : w.heap.size ≤ w'.heap.size)
    (hPQ : ∀ b off, B ≤ b → b < w.heap.size → ∀ i, i < n → P b off i → Q b off i) : HSlice B' w' v n Q := by
  obtain ⟨a, cap, hv, hn, hk⟩ := h
  refine ⟨a, cap, hv, hn, fun h0 => ?_⟩
  obtain ⟨b, off, ha, hb, hs, hc⟩ := hk h0
  exact ⟨b, off, ha, by omega, by omega, fun i hi => hPQ b off hb hs i hi (hc i hi)⟩

theorem HInts.keep {B : Nat} {w w' : World} {v : Value} {zs : List Int} (h : HInts B w v zs) (k : Keeps B w w') : HInts B w' v zs :=
  HSlice.mono h (Nat.le_refl _) k.1 fun b off hb hs i hi hc => (k.2 b hb hs _).trans hc
theorem HWay.keep {B : Nat} {w w' : World} {b o : Nat} {x : Wy} (h : HWay B w b o x) (k : Keeps B w w') (hB : B ≤ b) (hs : b < w.heap.size) : HWay B w' b o x := by
  obtain ⟨vn, vw, h0, h1, h2, h3, h4, h5⟩ := h
  exact ⟨vn, vw, (k.2 b hB hs _).trans h0, (k.2 b hB hs _).trans h1, (k.2 b hB hs _).trans h2, (k.2 b hB hs _).trans h3, h4.keep k, h5.keep k⟩
theorem HWays.keep {B : Nat} {w w' : World} {v : Value} {xs : List Wy} (h : HWays B w v xs) (k : Keeps B w w') : HWays B w' v xs :=
  HSlice.mono h (Nat.le_refl _) k.1 fun b off hb hs i hi hc => hc.keep k hb hs
theorem HRel.keep {B : Nat} {w w' : World} {b o : Nat} {x : Rl} (h : HRel B w b o x) (k : Keeps B w w') (hB : B ≤ b) (hs : b < w.heap.size) : HRel B w' b o x := by
  obtain ⟨vw, h0, h1, h2, h3, h4, h5, h6, h7⟩ := h
  exact ⟨vw, (k.2 b hB hs _).trans h0, (k.2 b hB hs _).trans h1, (k.2 b hB hs _).trans h2, (k.2 b hB hs _).trans h3, (k.2 b hB hs _).trans h4, (k.2 b hB hs _).trans h5, (k.2 b hB hs _).trans h6, h7.keep k⟩
theorem HRels.keep {B : Nat} {w w' : World} {v : Value} {xs : List Rl} (h : HRels B w v xs) (k : Keeps B w w') : HRels B w' v xs :=
  HSlice.mono h (Nat.le_refl _) k.1 fun b off hb hs i hi hc => hc.keep k hb hs
theorem HTurn.keep {B : Nat} {w w' : World} {b o : Nat} {x : Tn} (h : HTurn w b o x) (k : Keeps B w w') (hB : B ≤ b) (hs : b < w.heap.size) : HTurn w' b o x :=
  ⟨(k.2 b hB hs _).trans h.1, (k.2 b hB hs _).trans h.2.1, (k.2 b hB hs _).trans h.2.2⟩
theorem HTurns.keep {B : Nat} {w w' : World} {v : Value} {xs : List Tn} (h : HTurns B w v xs) (k : Keeps B w w') : HTurns B w' v xs :=
  HSlice.mono h (Nat.le_refl _) k.1 fun b off hb hs i hi hc => hc.keep k hb hs
theorem HNet.keep {B : Nat} {w w' : World} {v0 v1 v2 v3 : Value} {N : Nt} (h : HNet B w v0 v1 v2 v3 N) (k : Keeps B w w') : HNet B w' v0 v1 v2 v3 N :=
  ⟨h.1.keep k, h.2.1.keep k, h.2.2.1.keep k, h.2.2.2.keep k⟩
theorem HNet.next {B : Nat} {w w' : World} {v0 v1 v2 v3 : Value} {N : Nt} (h : HNet B w v0 v1 v2 v3 N) (k : Nx w w') : HNet B w' v0 v1 v2 v3 N := h.keep (k.keeps B)
theorem HInts.next {B : Nat} {w w' : World} {v : Value} {zs : List Int} (h : HInts B w v zs) (k : Nx w w') : HInts B w' v zs := h.keep (k.keeps B)

end Go.Proofs.YtedhchmigeooiaaDoor
