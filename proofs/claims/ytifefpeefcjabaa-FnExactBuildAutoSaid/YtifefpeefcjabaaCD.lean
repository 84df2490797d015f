import Derived.Test.YtifefpeefcjabaaCC
import Derived.Deep.RegionLaw
namespace Go
/-- an own row grows, as one step of a region that draws; and where it lies -/
theorem step_append_at {P : Program} {ops : Array Oper} {o : Oper} {a : Act} {w : World} {K : Act → World → Prop} {Q : Exit → Act → World → Prop} {E : Prop}
    (hg : o.guard = none) (s x : Operand) (t : TypeId) (hop : o.op = Op.call { callee := Callee.builtin Builtin.append, args := #[s, x], argTypes := #[t, t] })
    (e : TypeId) (i : TypeInfo) (z : Value) (size bytes : Nat) (h1 : P.underlying t = some (.slice e)) (h2 : P.info? e = some i) (h3 : i.zero = some z) (h4 : i.size = size) (h5 : i.bytes = bytes) (h6 : z.cells.size = size) (h7 : 0 < size)
    (B : Nat) (v : Value) (n : Nat) (olds : List Value) (hs : a.eval s = v) (hown : w.ownsRow B e size v n olds)
    (ad : Addr) (m c : Nat) (news : List Value) (hx : a.eval x = .slice (some ad) m c) (hn : news.length = m * size) (hc : ∀ j u, news[j]? = some u → w.cell? (ad.add j) = some u) (h1c : ∀ u ∈ news, u.oneCell' = true)
    (b1 : n + m ≤ maxLen) (b2 : (n + m) * bytes ≤ 140737488355328) (hB : B ≤ w.heap.size)
    (hK : ∀ v' w', w'.ownsRow B e size v' (n + m) (olds ++ news) → w.grownBy w' v.ownBlock → (v'.ownBlock = v.ownBlock ∨ v'.ownBlock = some w.heap.size) → K (a.put o.dst v') w') :
    if Region.wanted o (yielded ops a.tmps) = true then Oper.wp P o a w K Q else E := by
  have hw : Region.wanted o (yielded ops a.tmps) = true := by simp [Region.wanted, hg]
  rw [if_pos hw]
  obtain ⟨v', w', hrun, r1, r2, _, r4⟩ := run_append_own_at (P := P) w B t o.type e i z size bytes h1 h2 h3 h4 h5 h6 h7 v n olds hown ad m c news hn hc h1c b1 b2 hB
  unfold Oper.wp
  simp [execOp, hop, resolve, invoke, builtin, hs, hx, hrun, Result.andThen]
  exact hK v' w' r1 r2 r4
end Go
namespace Go.Proofs.Ytifefpeefcjabaa
open Go.RowKit Go.Sort
set_option linter.unusedVariables false
set_option maxRecDepth 100000

theorem infoBool : (Try.prog.info? 4).map (fun i => (i.zero, i.size, i.bytes)) = some (some (.bool false), 1, 1) := by kernel_rfl
def bcells (bs : List Bool) : List Value := bs.map fun b => .bool b
def OwnB (C : Nat) (w : World) (v : Value) (bs : List Bool) : Prop := w.ownsRow C 4 1 v bs.length (bcells bs)
theorem OwnB.snoc {B : Nat} {w : World} {v : Value} {bs : List Bool} {z : Bool} (h : w.ownsRow B 4 1 v (bs.length + 1) (bcells bs ++ [.bool z])) : OwnB B w v (bs ++ [z]) := by
  unfold OwnB
  have e : bcells (bs ++ [z]) = bcells bs ++ [.bool z] := by simp [bcells]
  rw [List.length_append, e]
  exact h
theorem OwnB.slice {B : Nat} {w : World} {v : Value} {bs : List Bool} (h : OwnB B w v bs) : ∃ a c, v = .slice a bs.length c := by
  rcases h.2 with ⟨rfl, h2⟩ | ⟨g, cap, cur, rfl, _⟩
  · exact ⟨none, 0, by rw [h2]⟩
  · exact ⟨_, _, rfl⟩
theorem bcells_at {bs : List Bool} {i : Nat} (hi : i < bs.length) : (bcells bs)[i]? = some (.bool (bat bs i)) := by rw [bat_eq hi]; simp [bcells, hi]
theorem OwnB.held {B : Nat} {w : World} {v : Value} {bs : List Bool} (h : OwnB B w v bs) : HBools B w v bs := by
  obtain ⟨h1, h2⟩ := h
  rcases h2 with ⟨rfl, h3⟩ | ⟨g, cap, cur, rfl, hg, hh, hc, hm, hs, ht⟩
  · unfold HBools
    rw [h3]
    exact ⟨_, _, rfl, Nat.zero_le _, fun h => absurd h (Nat.lt_irrefl _)⟩
  · refine ⟨_, _, rfl, by omega, fun h0 => ⟨g, 0, rfl, hg, (Array.getElem?_eq_some_iff.1 hh).1, fun i hi => ?_⟩⟩
    have e : (cur.toList.take (bs.length * 1))[i]? = (bcells bs)[i]? := by rw [ht]
    rw [List.getElem?_take_of_lt (by omega), bcells_at hi, Array.getElem?_toList] at e
    show w.cell? ⟨g, 0 + i, none⟩ = _
    rw [Nat.zero_add]
    simp [World.cell?, hh, e]
theorem own_apart {p q : Value} (h : ∀ b, p.ownBlock = some b → q.ownBlock ≠ some b) : q.ownBlock = none ∨ q.ownBlock ≠ p.ownBlock := by
  cases e : q.ownBlock with
  | none => exact Or.inl rfl
  | some b => exact Or.inr fun h' => h b h'.symm e
theorem apart_swap {p q : Value} (h : ∀ b, p.ownBlock = some b → q.ownBlock ≠ some b) : ∀ b, q.ownBlock = some b → p.ownBlock ≠ some b := fun b h1 h2 => h b h2 h1
theorem apart_new {p q v : Value} {w : World} {o : Obj} (h : ∀ b, p.ownBlock = some b → q.ownBlock ≠ some b) (hat : v.ownBlock = p.ownBlock ∨ v.ownBlock = some (w.alloc o).heap.size) (hq : ∀ b, q.ownBlock = some b → b < w.heap.size) : ∀ b, v.ownBlock = some b → q.ownBlock ≠ some b := by
  intro b hb hb'
  rcases hat with e | e
  · exact h b (e ▸ hb) hb'
  · rw [e] at hb
    have h1 := Option.some.inj hb
    have h2 := hq b hb'
    rw [size_alloc'] at h1
    omega
/-- an automaton while it is written: a box, five rows apart -/
structure R5 (C g : Nat) (w : World) (p0 p1 p2 p3 p4 : Value) (A : Au) : Prop where
  gc : g < C
  bx : Blk w g #[p0, p1, p2, p3, p4]
  o0 : OwnI C w p0 A.pa
  o1 : OwnI C w p1 A.la
  o2 : OwnI C w p2 A.fa
  o3 : OwnI C w p3 A.mu
  o4 : OwnB C w p4 A.bd
  a01 : ∀ b, p0.ownBlock = some b → p1.ownBlock ≠ some b
  a02 : ∀ b, p0.ownBlock = some b → p2.ownBlock ≠ some b
  a03 : ∀ b, p0.ownBlock = some b → p3.ownBlock ≠ some b
  a12 : ∀ b, p1.ownBlock = some b → p2.ownBlock ≠ some b
  a13 : ∀ b, p1.ownBlock = some b → p3.ownBlock ≠ some b
  a23 : ∀ b, p2.ownBlock = some b → p3.ownBlock ≠ some b
theorem R5.next {C g : Nat} {w : World} {p0 p1 p2 p3 p4 : Value} {A : Au} {w' : World} (h : R5 C g w p0 p1 p2 p3 p4 A) (k : Nx w w') : R5 C g w' p0 p1 p2 p3 p4 A :=
  ⟨h.gc, h.bx.next k, own_next h.o0 k, own_next h.o1 k, own_next h.o2 k, own_next h.o3 k, own_next h.o4 k, h.a01, h.a02, h.a03, h.a12, h.a13, h.a23⟩
theorem R5.app0 {C g : Nat} {w : World} {p0 p1 p2 p3 p4 : Value} {A : Au} {w' : World} {v : Value} {z : Int} (h : R5 C g w p0 p1 p2 p3 p4 A) (ob : Obj) (hown : w'.ownsRow C 2 1 v (A.pa.length + 1) (icells A.pa ++ [.int .i64 z])) (hgr : (w.alloc ob).grownBy w' p0.ownBlock) (hat : v.ownBlock = p0.ownBlock ∨ v.ownBlock = some (w.alloc ob).heap.size) :
    R5 C g (w'.setCell ⟨g, 0, none⟩ v) v p1 p2 p3 p4 { A with pa := A.pa ++ [z] } :=
  ⟨h.gc, (Blk.grown (h.bx.alloc ob) hgr (fun e => by have := (own_lt h.o0 _ e.symm).1; have := h.gc; omega)).set 0 v,
    own_store (OwnI.snoc hown) h.gc 0 _,
    own_store (World.ownsRow.kept (World.ownsRow.alloc h.o1 ob) hgr (own_apart h.a01)) h.gc 0 _,
    own_store (World.ownsRow.kept (World.ownsRow.alloc h.o2 ob) hgr (own_apart h.a02)) h.gc 0 _,
    own_store (World.ownsRow.kept (World.ownsRow.alloc h.o3 ob) hgr (own_apart h.a03)) h.gc 0 _,
    own_store (World.ownsRow.kept (World.ownsRow.alloc h.o4 ob) hgr (own_ne h.o4 h.o0 (by decide))) h.gc 0 _,
    apart_new h.a01 hat (fun b e => (own_lt h.o1 b e).2),
    apart_new h.a02 hat (fun b e => (own_lt h.o2 b e).2),
    apart_new h.a03 hat (fun b e => (own_lt h.o3 b e).2),
    h.a12,
    h.a13,
    h.a23⟩
theorem R5.box0 {C g : Nat} {w : World} {p0 p1 p2 p3 p4 : Value} {A : Au} {w' : World} (h : R5 C g w p0 p1 p2 p3 p4 A) (ob : Obj) (hgr : (w.alloc ob).grownBy w' p0.ownBlock) : w'.cell? ⟨g, 0, none⟩ = some p0 ∧ w'.frozen? ⟨g, 0, none⟩ = false := by
  have := Blk.grown (h.bx.alloc ob) hgr (fun e => by have := (own_lt h.o0 _ e.symm).1; have := h.gc; omega)
  exact ⟨this.cell (i := 0) rfl, this.frozen 0⟩
theorem R5.low0 {C g : Nat} {w : World} {p0 p1 p2 p3 p4 : Value} {A : Au} {w0 w' : World} {v : Value} (h : R5 C g w p0 p1 p2 p3 p4 A) (ob : Obj) (hgr : (w.alloc ob).grownBy w' p0.ownBlock) (hb : Below g w0 w) : Below g w0 (w'.setCell ⟨g, 0, none⟩ v) :=
  Below.setCell (Below.grown (Below.alloc hb (Nat.le_of_lt h.bx.lt) ob) hgr (by have := h.bx.lt; rw [size_alloc']; omega) (fun b e => by have := (own_lt h.o0 b e).1; have := h.gc; omega)) (Nat.le_refl _) _
theorem R5.app1 {C g : Nat} {w : World} {p0 p1 p2 p3 p4 : Value} {A : Au} {w' : World} {v : Value} {z : Int} (h : R5 C g w p0 p1 p2 p3 p4 A) (ob : Obj) (hown : w'.ownsRow C 2 1 v (A.la.length + 1) (icells A.la ++ [.int .i64 z])) (hgr : (w.alloc ob).grownBy w' p1.ownBlock) (hat : v.ownBlock = p1.ownBlock ∨ v.ownBlock = some (w.alloc ob).heap.size) :
    R5 C g (w'.setCell ⟨g, 1, none⟩ v) p0 v p2 p3 p4 { A with la := A.la ++ [z] } :=
  ⟨h.gc, (Blk.grown (h.bx.alloc ob) hgr (fun e => by have := (own_lt h.o1 _ e.symm).1; have := h.gc; omega)).set 1 v,
    own_store (World.ownsRow.kept (World.ownsRow.alloc h.o0 ob) hgr (own_apart (apart_swap h.a01))) h.gc 1 _,
    own_store (OwnI.snoc hown) h.gc 1 _,
    own_store (World.ownsRow.kept (World.ownsRow.alloc h.o2 ob) hgr (own_apart h.a12)) h.gc 1 _,
    own_store (World.ownsRow.kept (World.ownsRow.alloc h.o3 ob) hgr (own_apart h.a13)) h.gc 1 _,
    own_store (World.ownsRow.kept (World.ownsRow.alloc h.o4 ob) hgr (own_ne h.o4 h.o1 (by decide))) h.gc 1 _,
    apart_swap (apart_new (apart_swap h.a01) hat (fun b e => (own_lt h.o0 b e).2)),
    h.a02,
    h.a03,
    apart_new h.a12 hat (fun b e => (own_lt h.o2 b e).2),
    apart_new h.a13 hat (fun b e => (own_lt h.o3 b e).2),
    h.a23⟩
theorem R5.box1 {C g : Nat} {w : World} {p0 p1 p2 p3 p4 : Value} {A : Au} {w' : World} (h : R5 C g w p0 p1 p2 p3 p4 A) (ob : Obj) (hgr : (w.alloc ob).grownBy w' p1.ownBlock) : w'.cell? ⟨g, 1, none⟩ = some p1 ∧ w'.frozen? ⟨g, 1, none⟩ = false := by
  have := Blk.grown (h.bx.alloc ob) hgr (fun e => by have := (own_lt h.o1 _ e.symm).1; have := h.gc; omega)
  exact ⟨this.cell (i := 1) rfl, this.frozen 1⟩
theorem R5.low1 {C g : Nat} {w : World} {p0 p1 p2 p3 p4 : Value} {A : Au} {w0 w' : World} {v : Value} (h : R5 C g w p0 p1 p2 p3 p4 A) (ob : Obj) (hgr : (w.alloc ob).grownBy w' p1.ownBlock) (hb : Below g w0 w) : Below g w0 (w'.setCell ⟨g, 1, none⟩ v) :=
  Below.setCell (Below.grown (Below.alloc hb (Nat.le_of_lt h.bx.lt) ob) hgr (by have := h.bx.lt; rw [size_alloc']; omega) (fun b e => by have := (own_lt h.o1 b e).1; have := h.gc; omega)) (Nat.le_refl _) _
theorem R5.app2 {C g : Nat} {w : World} {p0 p1 p2 p3 p4 : Value} {A : Au} {w' : World} {v : Value} {z : Int} (h : R5 C g w p0 p1 p2 p3 p4 A) (ob : Obj) (hown : w'.ownsRow C 2 1 v (A.fa.length + 1) (icells A.fa ++ [.int .i64 z])) (hgr : (w.alloc ob).grownBy w' p2.ownBlock) (hat : v.ownBlock = p2.ownBlock ∨ v.ownBlock = some (w.alloc ob).heap.size) :
    R5 C g (w'.setCell ⟨g, 2, none⟩ v) p0 p1 v p3 p4 { A with fa := A.fa ++ [z] } :=
  ⟨h.gc, (Blk.grown (h.bx.alloc ob) hgr (fun e => by have := (own_lt h.o2 _ e.symm).1; have := h.gc; omega)).set 2 v,
    own_store (World.ownsRow.kept (World.ownsRow.alloc h.o0 ob) hgr (own_apart (apart_swap h.a02))) h.gc 2 _,
    own_store (World.ownsRow.kept (World.ownsRow.alloc h.o1 ob) hgr (own_apart (apart_swap h.a12))) h.gc 2 _,
    own_store (OwnI.snoc hown) h.gc 2 _,
    own_store (World.ownsRow.kept (World.ownsRow.alloc h.o3 ob) hgr (own_apart h.a23)) h.gc 2 _,
    own_store (World.ownsRow.kept (World.ownsRow.alloc h.o4 ob) hgr (own_ne h.o4 h.o2 (by decide))) h.gc 2 _,
    h.a01,
    apart_swap (apart_new (apart_swap h.a02) hat (fun b e => (own_lt h.o0 b e).2)),
    h.a03,
    apart_swap (apart_new (apart_swap h.a12) hat (fun b e => (own_lt h.o1 b e).2)),
    h.a13,
    apart_new h.a23 hat (fun b e => (own_lt h.o3 b e).2)⟩
theorem R5.box2 {C g : Nat} {w : World} {p0 p1 p2 p3 p4 : Value} {A : Au} {w' : World} (h : R5 C g w p0 p1 p2 p3 p4 A) (ob : Obj) (hgr : (w.alloc ob).grownBy w' p2.ownBlock) : w'.cell? ⟨g, 2, none⟩ = some p2 ∧ w'.frozen? ⟨g, 2, none⟩ = false := by
  have := Blk.grown (h.bx.alloc ob) hgr (fun e => by have := (own_lt h.o2 _ e.symm).1; have := h.gc; omega)
  exact ⟨this.cell (i := 2) rfl, this.frozen 2⟩
theorem R5.low2 {C g : Nat} {w : World} {p0 p1 p2 p3 p4 : Value} {A : Au} {w0 w' : World} {v : Value} (h : R5 C g w p0 p1 p2 p3 p4 A) (ob : Obj) (hgr : (w.alloc ob).grownBy w' p2.ownBlock) (hb : Below g w0 w) : Below g w0 (w'.setCell ⟨g, 2, none⟩ v) :=
  Below.setCell (Below.grown (Below.alloc hb (Nat.le_of_lt h.bx.lt) ob) hgr (by have := h.bx.lt; rw [size_alloc']; omega) (fun b e => by have := (own_lt h.o2 b e).1; have := h.gc; omega)) (Nat.le_refl _) _
theorem R5.app3 {C g : Nat} {w : World} {p0 p1 p2 p3 p4 : Value} {A : Au} {w' : World} {v : Value} {z : Int} (h : R5 C g w p0 p1 p2 p3 p4 A) (ob : Obj) (hown : w'.ownsRow C 2 1 v (A.mu.length + 1) (icells A.mu ++ [.int .i64 z])) (hgr : (w.alloc ob).grownBy w' p3.ownBlock) (hat : v.ownBlock = p3.ownBlock ∨ v.ownBlock = some (w.alloc ob).heap.size) :
    R5 C g (w'.setCell ⟨g, 3, none⟩ v) p0 p1 p2 v p4 { A with mu := A.mu ++ [z] } :=
  ⟨h.gc, (Blk.grown (h.bx.alloc ob) hgr (fun e => by have := (own_lt h.o3 _ e.symm).1; have := h.gc; omega)).set 3 v,
    own_store (World.ownsRow.kept (World.ownsRow.alloc h.o0 ob) hgr (own_apart (apart_swap h.a03))) h.gc 3 _,
    own_store (World.ownsRow.kept (World.ownsRow.alloc h.o1 ob) hgr (own_apart (apart_swap h.a13))) h.gc 3 _,
    own_store (World.ownsRow.kept (World.ownsRow.alloc h.o2 ob) hgr (own_apart (apart_swap h.a23))) h.gc 3 _,
    own_store (OwnI.snoc hown) h.gc 3 _,
    own_store (World.ownsRow.kept (World.ownsRow.alloc h.o4 ob) hgr (own_ne h.o4 h.o3 (by decide))) h.gc 3 _,
    h.a01,
    h.a02,
    apart_swap (apart_new (apart_swap h.a03) hat (fun b e => (own_lt h.o0 b e).2)),
    h.a12,
    apart_swap (apart_new (apart_swap h.a13) hat (fun b e => (own_lt h.o1 b e).2)),
    apart_swap (apart_new (apart_swap h.a23) hat (fun b e => (own_lt h.o2 b e).2))⟩
theorem R5.box3 {C g : Nat} {w : World} {p0 p1 p2 p3 p4 : Value} {A : Au} {w' : World} (h : R5 C g w p0 p1 p2 p3 p4 A) (ob : Obj) (hgr : (w.alloc ob).grownBy w' p3.ownBlock) : w'.cell? ⟨g, 3, none⟩ = some p3 ∧ w'.frozen? ⟨g, 3, none⟩ = false := by
  have := Blk.grown (h.bx.alloc ob) hgr (fun e => by have := (own_lt h.o3 _ e.symm).1; have := h.gc; omega)
  exact ⟨this.cell (i := 3) rfl, this.frozen 3⟩
theorem R5.low3 {C g : Nat} {w : World} {p0 p1 p2 p3 p4 : Value} {A : Au} {w0 w' : World} {v : Value} (h : R5 C g w p0 p1 p2 p3 p4 A) (ob : Obj) (hgr : (w.alloc ob).grownBy w' p3.ownBlock) (hb : Below g w0 w) : Below g w0 (w'.setCell ⟨g, 3, none⟩ v) :=
  Below.setCell (Below.grown (Below.alloc hb (Nat.le_of_lt h.bx.lt) ob) hgr (by have := h.bx.lt; rw [size_alloc']; omega) (fun b e => by have := (own_lt h.o3 b e).1; have := h.gc; omega)) (Nat.le_refl _) _
theorem R5.app4 {C g : Nat} {w : World} {p0 p1 p2 p3 p4 : Value} {A : Au} {w' : World} {v : Value} {z : Bool} (h : R5 C g w p0 p1 p2 p3 p4 A) (ob : Obj) (hown : w'.ownsRow C 4 1 v (A.bd.length + 1) (bcells A.bd ++ [.bool z])) (hgr : (w.alloc ob).grownBy w' p4.ownBlock) (hat : v.ownBlock = p4.ownBlock ∨ v.ownBlock = some (w.alloc ob).heap.size) :
    R5 C g (w'.setCell ⟨g, 4, none⟩ v) p0 p1 p2 p3 v { A with bd := A.bd ++ [z] } :=
  ⟨h.gc, (Blk.grown (h.bx.alloc ob) hgr (fun e => by have := (own_lt h.o4 _ e.symm).1; have := h.gc; omega)).set 4 v,
    own_store (World.ownsRow.kept (World.ownsRow.alloc h.o0 ob) hgr (own_ne h.o0 h.o4 (by decide))) h.gc 4 _,
    own_store (World.ownsRow.kept (World.ownsRow.alloc h.o1 ob) hgr (own_ne h.o1 h.o4 (by decide))) h.gc 4 _,
    own_store (World.ownsRow.kept (World.ownsRow.alloc h.o2 ob) hgr (own_ne h.o2 h.o4 (by decide))) h.gc 4 _,
    own_store (World.ownsRow.kept (World.ownsRow.alloc h.o3 ob) hgr (own_ne h.o3 h.o4 (by decide))) h.gc 4 _,
    own_store (OwnB.snoc hown) h.gc 4 _,
    h.a01,
    h.a02,
    h.a03,
    h.a12,
    h.a13,
    h.a23⟩
theorem R5.box4 {C g : Nat} {w : World} {p0 p1 p2 p3 p4 : Value} {A : Au} {w' : World} (h : R5 C g w p0 p1 p2 p3 p4 A) (ob : Obj) (hgr : (w.alloc ob).grownBy w' p4.ownBlock) : w'.cell? ⟨g, 4, none⟩ = some p4 ∧ w'.frozen? ⟨g, 4, none⟩ = false := by
  have := Blk.grown (h.bx.alloc ob) hgr (fun e => by have := (own_lt h.o4 _ e.symm).1; have := h.gc; omega)
  exact ⟨this.cell (i := 4) rfl, this.frozen 4⟩
theorem R5.low4 {C g : Nat} {w : World} {p0 p1 p2 p3 p4 : Value} {A : Au} {w0 w' : World} {v : Value} (h : R5 C g w p0 p1 p2 p3 p4 A) (ob : Obj) (hgr : (w.alloc ob).grownBy w' p4.ownBlock) (hb : Below g w0 w) : Below g w0 (w'.setCell ⟨g, 4, none⟩ v) :=
  Below.setCell (Below.grown (Below.alloc hb (Nat.le_of_lt h.bx.lt) ob) hgr (by have := h.bx.lt; rw [size_alloc']; omega) (fun b e => by have := (own_lt h.o4 b e).1; have := h.gc; omega)) (Nat.le_refl _) _
end Go.Proofs.Ytifefpeefcjabaa
