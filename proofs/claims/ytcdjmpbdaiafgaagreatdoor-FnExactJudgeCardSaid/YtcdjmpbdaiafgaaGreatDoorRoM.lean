import Derived.Test.YtcdjmpbdaiafgaaGreatDoorRoH
import Derived.Test.YtcdjmpbdaiafgaaGreatDoorRoG
namespace Go.Proofs.YtcdjmpbdaiafgaaGreatDoor
open Go.RowKit
set_option linter.unusedVariables false
set_option maxRecDepth 100000

/-- the road of a network -/
def tlN (N : Nt) : Nat → Nat := tlE (E1 N)
def roadY (N : Nt) : Rd := ⟨N.nodes, E1 N, (List.range (N.nodes.length + 1)).map (fun q => ((cL (tlN N) q (mN N) : Nat) : Int)), (outS (tlN N) (mN N) (N.nodes.length + 1)).map (fun e : Nat => (e : Int))⟩
def roadOf (N : Nt) : Rd := if implValid N then roadY N else ⟨[], [], [], []⟩
/-- its four rows, each of its own: the edges lie lowest, then the firsts, then the outs, then the nodes -/
def RoadOwn (B : Nat) (w : World) (v0 v1 v2 v3 : Value) (R : Rd) : Prop :=
  (v0 = .slice none 0 0 ∧ v1 = .slice none 0 0 ∧ v2 = .slice none 0 0 ∧ v3 = .slice none 0 0 ∧ R = ⟨[], [], [], []⟩) ∨
  ∃ gF gO cF cO, v2 = .slice (some ⟨gF, 0, none⟩) R.first.length cF ∧ v3 = .slice (some ⟨gO, 0, none⟩) R.out.length cO ∧ gF < gO ∧ OwnE B w v1 R.edges ∧ (∀ g, v1.ownBlock = some g → g < gF) ∧ RW w gF R.first.length (iat R.first) ∧ RW w gO R.out.length (iat R.out) ∧ OwnI (gO + 1) w v0 R.nodes ∧ B ≤ gF ∧ R.first.length ≤ maxLen ∧ R.out.length ≤ maxLen
theorem OwnI.slice {B : Nat} {w : World} {v : Value} {zs : List Int} (h : OwnI B w v zs) : ∃ a c, v = .slice a zs.length c := by
  rcases h.2 with ⟨rfl, h2⟩ | ⟨g, cap, cur, rfl, _⟩
  · exact ⟨none, 0, by rw [h2]⟩
  · exact ⟨_, _, rfl⟩
theorem OwnI.base {B B' : Nat} {w : World} {v : Value} {zs : List Int} (h : OwnI B w v zs) (hB : B' ≤ B) : OwnI B' w v zs := by
  obtain ⟨h1, h2⟩ := h
  refine ⟨h1, ?_⟩
  rcases h2 with h2 | ⟨g, cap, cur, hv, hg, r⟩
  · exact Or.inl h2
  · exact Or.inr ⟨g, cap, cur, hv, by omega, r⟩
theorem own_store {B : Nat} {w : World} {ty sz : Nat} {v : Value} {n : Nat} {xs : List Value} (h : w.ownsRow B ty sz v n xs) {g : Nat} (hg : g < B) (o : Nat) (u : Value) : (w.setCell ⟨g, o, none⟩ u).ownsRow B ty sz v n xs := by
  obtain ⟨h1, h2⟩ := h
  refine ⟨h1, ?_⟩
  rcases h2 with h2 | ⟨g', cap, cur, hv, hg', hh, r⟩
  · exact Or.inl h2
  · exact Or.inr ⟨g', cap, cur, hv, hg', (Below.heap_setCell _ _ _ _ (by simp; omega)).trans hh, r⟩
theorem OwnE.base {B B' : Nat} {w : World} {v : Value} {es : List Eg} (h : OwnE B w v es) (hB : B' ≤ B) : OwnE B' w v es := by
  obtain ⟨h1, h2⟩ := h
  refine ⟨h1, ?_⟩
  rcases h2 with h2 | ⟨g, cap, cur, hv, hg, r⟩
  · exact Or.inl h2
  · exact Or.inr ⟨g, cap, cur, hv, by omega, r⟩
theorem RoadOwn.held {B : Nat} {w : World} {v0 v1 v2 v3 : Value} {R : Rd} (h : RoadOwn B w v0 v1 v2 v3 R) : HRoad B w v0 v1 v2 v3 R := by
  rcases h with ⟨rfl, rfl, rfl, rfl, rfl⟩ | ⟨gF, gO, cF, cO, rfl, rfl, h1, h2, h3, h4, h5, h6, h7, h8, h9⟩
  · exact ⟨⟨_, _, rfl, by simp [maxLen], fun h => absurd h (Nat.lt_irrefl _)⟩, ⟨_, _, rfl, by simp [maxLen], fun h => absurd h (Nat.lt_irrefl _)⟩, ⟨_, _, rfl, by simp [maxLen], fun h => absurd h (Nat.lt_irrefl _)⟩, ⟨_, _, rfl, by simp [maxLen], fun h => absurd h (Nat.lt_irrefl _)⟩⟩
  · exact ⟨(h6.base (by omega)).held, h2.held, h4.held rfl h8 (fun i _ => rfl) h7, h5.held rfl h9 (fun i _ => rfl) (by omega)⟩
theorem E1_tail {N : Nt} (h : RoadIn N) {e : Nat} (he : e < (E1 N).length) : 0 ≤ (eat (E1 N) e).tail ∧ (eat (E1 N) e).tail < N.nodes.length := by
  rw [E1_len] at he
  obtain ⟨i, j, q, hi, hj, hq, he1⟩ := lay_of N.ways.length he
  obtain ⟨_, a1⟩ := at_place hi hj hq
  rw [← he1] at a1
  have hm := asc_mono (fun i j => rfl) h.asc
  have hp : ∀ t, hasI N.nodes t = true → pos N.nodes t < N.nodes.length := by
    intro t ht
    obtain ⟨k, hk, rfl⟩ := hasI_at ht
    rw [pos_at hm hk]
    exact hk
  have hl := h.len i hi
  have hns : nsN N i = (wat N.ways i).weights.length := rfl
  have p0 := hp _ (h.has i j hi (by omega))
  have p1 := hp _ (h.has i (j + 1) hi (by omega))
  rw [a1]
  split
  · exact ⟨by simp [fwd], by simp [fwd]; omega⟩
  · split
    · exact ⟨by simp [fwd], by simp [fwd]; omega⟩
    · exact ⟨by simp [bwd], by simp [bwd]; omega⟩

theorem tlN_lt {N : Nt} (h : RoadIn N) {e : Nat} (he : e < mN N) : tlN N e < N.nodes.length := by
  have := E1_tail h (e := e) (by rw [E1_len]; exact he)
  unfold tlN tlE
  omega
theorem out_len {N : Nt} (h : RoadIn N) : (roadY N).out.length = mN N := by
  show ((outS (tlN N) (mN N) (N.nodes.length + 1)).map (fun e : Nat => (e : Int))).length = _
  rw [List.length_map, outS_len]
  exact cL_all fun e he => Nat.lt_succ_of_lt (tlN_lt h he)
theorem road_mk {N : Nt} (hv : implValid N = true) {B : Nat} {w : World} {vn ve : Value} {gF gO cO : Nat} {F : Nat → Int} (h1 : OwnE B w ve (E1 N)) (hb : ∀ g, ve.ownBlock = some g → g < gF) (hB : B ≤ gF) (hg : gF < gO)
    (hF : RW w gF (N.nodes.length + 1) (fun q => ((cL (tlE (E1 N)) q (E1 N).length : Nat) : Int))) (hO : RW w gO (E1 N).length F) (hO' : ∀ e, e < (E1 N).length → F (rank (tlE (E1 N)) (E1 N).length e) = e) (hn : OwnI (gO + 1) w vn N.nodes) :
    RoadOwn B w vn ve (.slice (some ⟨gF, 0, none⟩) (N.nodes.length + 1) (N.nodes.length + 1)) (.slice (some ⟨gO, 0, none⟩) (E1 N).length cO) (roadOf N) := by
  have hr := road_in hv
  have e0 : roadOf N = roadY N := by simp [roadOf, hv]
  have l1 : (roadY N).first.length = N.nodes.length + 1 := by simp [roadY]
  have l2 := out_len hr
  have hm : mN N ≤ 4000 := by unfold mN; rw [st_ed]; exact hr.ed
  have c0 := hr.c0
  rw [E1_len] at hF hO hO'
  rw [e0]
  refine Or.inr ⟨gF, gO, N.nodes.length + 1, cO, by rw [l1], by rw [l2, E1_len], hg, h1, hb, ?_, ?_, hn, hB, by rw [l1]; unfold maxLen; omega, by rw [l2]; unfold maxLen; omega⟩
  · rw [l1]
    exact hF.congr fun i hi => (iat_map (fun q => ((cL (tlN N) q (mN N) : Nat) : Int)) hi).symm
  · rw [l2]
    refine hO.congr fun x hx => ?_
    obtain ⟨e, h2, h3⟩ := out_eq (tl := tlN N) (n := N.nodes.length) (fun e he => tlN_lt hr he) (F := F) hO' hx
    rw [h3]
    have h4 : (roadY N).out[x]? = some (e : Int) := by
      show ((outS (tlN N) (mN N) (N.nodes.length + 1)).map (fun e : Nat => (e : Int)))[x]? = _
      rw [List.getElem?_map, h2]
      rfl
    simp [iat, List.getD, h4]

end Go.Proofs.YtcdjmpbdaiafgaaGreatDoor

namespace Go.Proofs.YtcdjmpbdaiafgaaGreatDoor
set_option linter.unusedVariables false

/- the chains of a relation: as the model lists them, and as the program goes through them -/

section
/-- swapped products -/
theorem flatMap_app {β γ : Type} (B : List β) (f g : β → List γ) : (B.flatMap f ++ B.flatMap g).Perm (B.flatMap fun b => f b ++ g b) := by
  induction B with
  | nil => exact List.Perm.refl _
  | cons b B ih =>
    simp only [List.flatMap_cons]
    have h1 : (f b ++ B.flatMap f ++ (g b ++ B.flatMap g)).Perm (f b ++ (g b ++ (B.flatMap f ++ B.flatMap g))) := by
      rw [List.append_assoc]
      refine List.Perm.append_left _ ?_
      rw [← List.append_assoc, ← List.append_assoc]
      exact List.Perm.append_right _ List.perm_append_comm
    refine h1.trans ?_
    rw [List.append_assoc]
    exact List.Perm.append_left _ (List.Perm.append_left _ ih)
theorem flatMap_swap {α β γ : Type} (A : List α) (B : List β) (f : α → β → List γ) : (A.flatMap fun a => B.flatMap fun b => f a b).Perm (B.flatMap fun b => A.flatMap fun a => f a b) := by
  induction A with
  | nil => simp
  | cons a A ih =>
    simp only [List.flatMap_cons]
    exact (List.Perm.append_left _ ih).trans (flatMap_app B (f a) (fun b => A.flatMap fun a => f a b))
theorem fm_congr {β γ : Type} {B : List β} {f g : β → List γ} (h : ∀ b ∈ B, f b = g b) : B.flatMap f = B.flatMap g := by
  induction B with
  | nil => rfl
  | cons b B ih => rw [List.flatMap_cons, List.flatMap_cons, h b (by simp), ih (fun c hc => h c (by simp [hc]))]
theorem filter_flatMap {β γ : Type} (B : List β) (p : β → Bool) (f : β → List γ) : (B.filter p).flatMap f = B.flatMap fun b => if p b then f b else [] := by
  induction B with
  | nil => rfl
  | cons b B ih =>
    by_cases h : p b = true
    · simp [h, ih]
    · simp [h, ih]
end

section
variable (es : List Eg)
/-- where a list of edges begins and ends -/
def tlL (l : List Nat) : Int := (eat es (l.headD 0)).tail
def hdL (l : List Nat) : Int := (eat es (l.getLastD 0)).head
/-- every list with every piece at its end that joins (l2Grow) -/
def growL (ls ps : List (List Nat)) : List (List Nat) := ls.flatMap fun l => (ps.filter fun p => decide (hdL es l = tlL es p)).map fun p => l ++ p
theorem growL_flat (ls ps : List (List Nat)) : growL es ls ps = ls.flatMap fun l => growL es [l] ps := by
  unfold growL
  simp
theorem growL_app (ls ls' ps : List (List Nat)) : growL es (ls ++ ls') ps = growL es ls ps ++ growL es ls' ps := by simp [growL]
def growAll (ls : List (List Nat)) (ts : List (List (List Nat))) : List (List Nat) := ts.foldl (growL es) ls
theorem growAll_app (ts : List (List (List Nat))) : ∀ (ls ls' : List (List Nat)), growAll es (ls ++ ls') ts = growAll es ls ts ++ growAll es ls' ts := by
  induction ts with
  | nil => intro ls ls'; rfl
  | cons t ts ih =>
    intro ls ls'
    show growAll es (growL es (ls ++ ls') t) ts = growAll es (growL es ls t) ts ++ growAll es (growL es ls' t) ts
    rw [growL_app, ih]
theorem growAll_nil (ts : List (List (List Nat))) : growAll es [] ts = [] := by
  induction ts with
  | nil => rfl
  | cons t ts ih => exact ih
theorem growAll_flat (ts : List (List (List Nat))) (ls : List (List Nat)) : growAll es ls ts = ls.flatMap fun l => growAll es [l] ts := by
  induction ls with
  | nil => rw [growAll_nil]; rfl
  | cons l ls ih =>
    rw [show l :: ls = [l] ++ ls from rfl, growAll_app, ih]
    simp
theorem hdL_app {l p : List Nat} (hp : p ≠ []) : hdL es (l ++ p) = hdL es p := by
  unfold hdL
  rw [List.getLastD_eq_getLast?, List.getLastD_eq_getLast?, List.getLast?_append]
  cases h : p.getLast? with
  | none => exact absurd (List.getLast?_eq_none_iff.1 h) hp
  | some x => rfl
theorem tlL_app {l p : List Nat} (hl : l ≠ []) : tlL es (l ++ p) = tlL es l := by
  cases l with
  | nil => exact absurd rfl hl
  | cons a l => rfl
/-- what is put ahead stays ahead -/
theorem growL_ahead {l m : List Nat} (hm : m ≠ []) (ps : List (List Nat)) : growL es [l ++ m] ps = (growL es [m] ps).map fun q => l ++ q := by
  simp only [growL, List.flatMap_cons, List.flatMap_nil, List.append_nil, List.map_map, hdL_app es hm]
  refine List.map_congr_left (fun q _ => ?_)
  simp [List.append_assoc]
theorem growL_ne {l : List Nat} (hl : l ≠ []) (ps : List (List Nat)) : ∀ q ∈ growL es [l] ps, q ≠ [] := by
  intro q hq
  simp only [growL, List.flatMap_cons, List.flatMap_nil, List.append_nil, List.mem_map] at hq
  obtain ⟨p, _, rfl⟩ := hq
  simp [hl]
theorem growAll_ahead (ts : List (List (List Nat))) : ∀ {l m : List Nat}, m ≠ [] → growAll es [l ++ m] ts = (growAll es [m] ts).map fun q => l ++ q := by
  induction ts with
  | nil => intro l m _; rfl
  | cons t ts ih =>
    intro l m hm
    show growAll es (growL es [l ++ m] t) ts = (growAll es (growL es [m] t) ts).map _
    rw [growL_ahead es hm, growAll_flat, growAll_flat es ts (growL es [m] t), List.map_flatMap, List.flatMap_map]
    refine fm_congr (fun q hq => ?_)
    exact ih (growL_ne es hm t q hq)
/-- beginning with one list and going on by pieces is picking the middles that join -/
theorem growAll_first {a : List Nat} (t : List (List Nat)) (ts : List (List (List Nat))) (ht : ∀ p ∈ t, p ≠ []) : growAll es [a] (t :: ts) = ((growAll es t ts).filter fun m => decide (hdL es a = tlL es m)).map fun m => a ++ m := by
  have hne : ∀ (ls : List (List Nat)) (ts : List (List (List Nat))), (∀ l ∈ ls, l ≠ []) → ∀ q ∈ growAll es ls ts, q ≠ [] := by
    intro ls ts
    induction ts generalizing ls with
    | nil => exact fun h => h
    | cons t ts ih =>
      intro h
      refine ih (growL es ls t) (fun q hq => ?_)
      rw [growL_flat] at hq
      obtain ⟨l, hl, hq⟩ := List.mem_flatMap.1 hq
      exact growL_ne es (h l hl) t q hq
  have htl : ∀ (ts : List (List (List Nat))) (p : List Nat), p ≠ [] → ∀ m ∈ growAll es [p] ts, tlL es m = tlL es p := by
    intro ts
    induction ts with
    | nil => intro p _ m hm; have : m = p := by simpa [growAll] using hm
             rw [this]
    | cons t ts ih =>
      intro p hp m hm
      have hm' : m ∈ growAll es (growL es [p] t) ts := hm
      rw [growAll_flat] at hm'
      obtain ⟨l, hl, hm'⟩ := List.mem_flatMap.1 hm'
      have h1 := ih l (growL_ne es hp t l hl) m hm'
      simp only [growL, List.flatMap_cons, List.flatMap_nil, List.append_nil, List.mem_map] at hl
      obtain ⟨q, _, rfl⟩ := hl
      rw [h1, tlL_app es hp]
  show growAll es (growL es [a] t) ts = _
  rw [growAll_flat es ts t, growAll_flat]
  simp only [growL, List.flatMap_cons, List.flatMap_nil, List.append_nil, List.flatMap_map, List.filter_flatMap, List.map_flatMap]
  rw [filter_flatMap]
  refine fm_congr (fun p hp => ?_)
  have hf : ∀ m ∈ growAll es [p] ts, decide (hdL es a = tlL es m) = decide (hdL es a = tlL es p) := fun m hm => by rw [htl ts p (ht p hp) m hm]
  by_cases h : hdL es a = tlL es p
  · rw [if_pos (by simpa using h), growAll_ahead es ts (ht p hp)]
    rw [List.filter_eq_self.2 (fun m hm => by rw [hf m hm]; simpa using h)]
  · rw [if_neg (by simpa using h)]
    rw [List.filter_eq_nil_iff.2 (fun m hm => by rw [hf m hm]; simpa using h)]
    rfl
/-- the model's chains: first edges, middles, last edges -/
def chainsM (F T : List Nat) (ms : List (List Nat)) : List (List Nat) := F.flatMap fun a => ms.flatMap fun m => T.flatMap fun b => if decide ((eat es a).head = tlL es m) && decide (hdL es m = (eat es b).tail) then [[a] ++ m ++ [b]] else []
/-- the program's: middles, first edges, last edges -/
def chainsP (F T : List Nat) (ms : List (List Nat)) : List (List Nat) := ms.flatMap fun m => (F.filter fun a => decide ((eat es a).head = tlL es m)).flatMap fun a => (T.filter fun b => decide ((eat es b).tail = hdL es m)).map fun b => [a] ++ m ++ [b]
theorem chains_perm (F T : List Nat) (ms : List (List Nat)) : (chainsM es F T ms).Perm (chainsP es F T ms) := by
  have e : chainsP es F T ms = ms.flatMap fun m => F.flatMap fun a => T.flatMap fun b => if decide ((eat es a).head = tlL es m) && decide (hdL es m = (eat es b).tail) then [[a] ++ m ++ [b]] else [] := by
    unfold chainsP
    refine fm_congr (fun m _ => ?_)
    rw [filter_flatMap]
    refine fm_congr (fun a _ => ?_)
    by_cases h : (eat es a).head = tlL es m
    · rw [if_pos (by simpa using h), List.map_eq_flatMap, filter_flatMap]
      refine fm_congr (fun b _ => ?_)
      by_cases g : (eat es b).tail = hdL es m
      · simp [h, g]
      · have g' : ¬ hdL es m = (eat es b).tail := fun x => g x.symm
        simp [h, g, g']
    · rw [if_neg (by simpa using h)]
      symm
      rw [List.flatMap_eq_nil_iff]
      intro b _
      simp [h]
  rw [e]
  exact flatMap_swap F ms _
/-- as the model grows them -/
theorem grow_chains (F T : List Nat) (t : List (List Nat)) (ts : List (List (List Nat))) (ht : ∀ p ∈ t, p ≠ []) (hms : ∀ m ∈ growAll es t ts, m ≠ []) : growL es (growAll es (F.map fun a => [a]) (t :: ts)) (T.map fun b => [b]) = chainsM es F T (growAll es t ts) := by
  rw [growAll_flat, List.flatMap_map, growL_flat]
  unfold chainsM
  rw [List.flatMap_assoc]
  refine fm_congr (fun a _ => ?_)
  rw [growAll_first es t ts ht, List.flatMap_map, filter_flatMap]
  refine fm_congr (fun m hm => ?_)
  have ha : hdL es [a] = (eat es a).head := rfl
  by_cases h : (eat es a).head = tlL es m
  · rw [if_pos (by rw [ha]; simpa using h)]
    simp only [growL, List.flatMap_cons, List.flatMap_nil, List.append_nil, List.filter_map, List.map_map]
    rw [List.map_eq_flatMap, filter_flatMap]
    refine fm_congr (fun b _ => ?_)
    have e1 : hdL es ([a] ++ m) = hdL es m := hdL_app es (hms m hm)
    have e2 : tlL es [b] = (eat es b).tail := rfl
    simp only [Function.comp_apply, e1, e2]
    by_cases g : hdL es m = (eat es b).tail
    · simp [h, g]
    · simp [h, g]
  · rw [if_neg (by rw [ha]; simpa using h)]
    symm
    rw [List.flatMap_eq_nil_iff]
    intro b _
    simp [h]
end
end Go.Proofs.YtcdjmpbdaiafgaaGreatDoor
