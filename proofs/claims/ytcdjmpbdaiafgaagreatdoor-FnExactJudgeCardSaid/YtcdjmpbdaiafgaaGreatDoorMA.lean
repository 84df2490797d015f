import Derived.Test.YtcdjmpbdaiafgaaGreatDoorLL
namespace Go.Proofs.YtcdjmpbdaiafgaaGreatDoor
set_option linter.unusedVariables false
-- the chains as the program goes through them, against the model's
def chainS (es : List Eg) (F T : List Nat) (M : List Sx) : List (List Nat) := M.flatMap fun m => (F.filter fun a => decide ((eat es a).head = m.t)).flatMap fun a => (T.filter fun b => decide ((eat es b).tail = m.h)).map fun b => [a] ++ m.l ++ [b]
def chP (N : Nt) (r : Rl) : List (List Nat) := chainS (E1 N) (firstsR N (E1 N) r) (lastsR N (E1 N) r) (midS N r)
theorem chainS_map (es : List Eg) (F T : List Nat) (ms : List (List Nat)) : chainS es F T (ms.map (sxOf es)) = chainsP es F T ms := by
  unfold chainS chainsP
  rw [List.flatMap_map]
  rfl
theorem midL_all {N : Nt} {r : Rl} {w0 : Int} {rest : List Int} (hw : r.ways = w0 :: rest) : ∀ k, k ≤ rest.length → midL N r k = growAll (E1 N) (travs N (E1 N) (wpos N.ways w0)) ((rest.take k).map fun id => travs N (E1 N) (wpos N.ways id))
  | 0, _ => by
    unfold midL
    rw [hw]
    rfl
  | k + 1, hk => by
    show growL _ (midL N r k) _ = _
    have hlt : k < rest.length := by omega
    rw [midL_all hw k (by omega), List.take_succ_eq_append_getElem hlt, List.map_append]
    unfold growAll
    rw [List.foldl_append]
    have e : iat r.ways (k + 1) = rest[k] := by rw [hw, iat_eq (by simpa using hlt)]; rfl
    rw [e]
    rfl
theorem node_pos {zs : List Int} (ha : ascI zs = true) {id : Int} (hh : hasI zs id = true) {x : Int} (h0 : 0 ≤ x) (h1 : x < zs.length) : iat zs x.toNat = id ↔ x = pos zs id := by
  have hm : ∀ i j, i < j → j < zs.length → iat zs i < iat zs j := asc_mono (fun i j => rfl) ha
  have hlt : pos zs id < zs.length := by
    unfold pos hasI at *
    exact List.findIdx_lt_length.2 (by simpa using List.any_eq_true.1 hh)
  constructor
  · intro e
    have hx : x.toNat < zs.length := by omega
    have := pos_at hm hx
    rw [e] at this
    omega
  · intro e
    rw [e]
    have h2 : (zs[pos zs id] == id) = true := List.findIdx_getElem (p := fun z : Int => z == id) (xs := zs) (w := hlt)
    rw [show ((pos zs id : Nat) : Int).toNat = pos zs id by omega, iat_eq hlt]
    simpa using h2
theorem ways_cons {l : List Int} (h : 1 ≤ l.length) : ∃ a t, l = a :: t := by
  cases l with
  | nil => simp at h
  | cons a t => exact ⟨a, t, rfl⟩
/-- the same chains, in another order -/
theorem chains_same {N : Nt} {r : Rl} (hv : implValid N = true) (hg : RelG N r) : (chainsR N N.nodes (E1 N) r).Perm (chP N r) := by
  unfold chainsR chP midS
  cases hvia : r.via
  · rw [if_neg (by simp), if_neg (by simp), chainS_map]
    obtain ⟨w0, rest, hw⟩ := ways_cons (hg.one hvia).1
    refine List.Perm.trans (List.Perm.of_eq ?_) (chains_perm (E1 N) _ _ _)
    have hlen : r.ways.length = rest.length + 1 := by rw [hw]; rfl
    have hne : ∀ k, k < r.ways.length → ∀ l ∈ midL N r k, l ≠ [] := fun k hk l hl => (midL_good hv hg hvia k hk l hl).1.1
    have em : midL N r (r.ways.length - 1) = growAll (E1 N) (travs N (E1 N) (wpos N.ways w0)) (rest.map fun id => travs N (E1 N) (wpos N.ways id)) := by
      rw [midL_all hw _ (by omega), show r.ways.length - 1 = rest.length by omega, List.take_length]
    have e0 : midL N r 0 = travs N (E1 N) (wpos N.ways w0) := by
      unfold midL
      rw [hw]
      rfl
    unfold growW
    rw [List.take_length, em]
    have hmap : (r.ways.map fun id => travs N (E1 N) (wpos N.ways id)) = travs N (E1 N) (wpos N.ways w0) :: (rest.map fun id => travs N (E1 N) (wpos N.ways id)) := by rw [hw]; rfl
    rw [hmap]
    refine grow_chains (E1 N) _ _ _ _ ?_ ?_
    · rw [← e0]; exact hne 0 (by omega)
    · rw [← em]; exact hne _ (by omega)
  · rw [if_pos rfl, if_pos rfl]
    refine List.Perm.of_eq ?_
    have hn := hg.node hvia
    have ha := (road_in hv).asc
    unfold chainS growL sing
    simp only [List.flatMap_cons, List.flatMap_nil, List.append_nil]
    rw [List.flatMap_map]
    have ef : (firstsR N (E1 N) r).filter (atNode N.nodes (E1 N) r.node) = (firstsR N (E1 N) r).filter (fun a => decide ((eat (E1 N) a).head = (pos N.nodes r.node : Int))) := by
      refine List.filter_congr (fun a hm => ?_)
      have hb := E1_head (road_in hv) (ofTo_lt hm)
      unfold atNode
      rw [decide_eq_decide]
      exact node_pos ha hn hb.1 hb.2
    rw [ef]
    refine fm_congr (fun a hm => ?_)
    have hh : (eat (E1 N) a).head = (pos N.nodes r.node : Int) := by simpa using (List.mem_filter.1 hm).2
    rw [List.filter_map, List.map_map]
    have e2 : (lastsR N (E1 N) r).filter ((fun p => decide (hdL (E1 N) [a] = tlL (E1 N) p)) ∘ fun e => [e]) = (lastsR N (E1 N) r).filter (fun b => decide ((eat (E1 N) b).tail = (pos N.nodes r.node : Int))) := by
      refine List.filter_congr (fun b _ => ?_)
      show decide ((eat (E1 N) a).head = (eat (E1 N) b).tail) = _
      rw [hh, decide_eq_decide]
      exact eq_comm
    rw [e2]
    rfl
/-- the resolution, by the program's chains -/
theorem res_same {N : Nt} (hv : implValid N = true) : resOf N = resTo (chP N) N.rels N.rels.length := by
  unfold resOf
  rw [if_pos hv]
  refine resTo_perm (fun k hk => ?_) _ (Nat.le_refl _)
  exact chains_same hv (rel_g ((rels_in hv).rel k hk))
end Go.Proofs.YtcdjmpbdaiafgaaGreatDoor

namespace Go.Proofs.YtcdjmpbdaiafgaaGreatDoor
set_option linter.unusedVariables false
-- how many chains have come, and which comes next
section
variable (es : List Eg) (F T : List Nat)
def endsOf (m : Sx) : List Nat := F.filter fun a => decide ((eat es a).head = m.t)
def startsOf (m : Sx) : List Nat := T.filter fun b => decide ((eat es b).tail = m.h)
def natat (l : List Nat) (i : Nat) : Nat := l.getD i 0
def ch1 (m : Sx) (a b : Nat) : List Nat := [a] ++ m.l ++ [b]
def chTo (M : List Sx) (k i j : Nat) : List (List Nat) := chainS es F T (M.take k) ++ (((endsOf es F (sxat M k)).take i).flatMap fun a => (startsOf es T (sxat M k)).map (ch1 (sxat M k) a)) ++ ((startsOf es T (sxat M k)).take j).map (ch1 (sxat M k) (natat (endsOf es F (sxat M k)) i))
theorem nat_take {l : List Nat} {i : Nat} (h : i < l.length) : l.take (i + 1) = l.take i ++ [natat l i] := by
  rw [List.take_add_one]
  simp [natat, List.getD_eq_getElem?_getD, h]
theorem chTo_start (M : List Sx) : chTo es F T M 0 0 0 = [] := by simp [chTo, chainS]
theorem chTo_zero (M : List Sx) (k : Nat) : chTo es F T M k 0 0 = chainS es F T (M.take k) := by simp [chTo]
theorem chTo_row {M : List Sx} {k i : Nat} (hi : i < (endsOf es F (sxat M k)).length) : chTo es F T M k i (startsOf es T (sxat M k)).length = chTo es F T M k (i + 1) 0 := by
  unfold chTo
  rw [List.take_length, nat_take hi, List.flatMap_append]
  simp
theorem chTo_full {M : List Sx} {k : Nat} (hk : k < M.length) : chTo es F T M k (endsOf es F (sxat M k)).length 0 = chTo es F T M (k + 1) 0 0 := by
  rw [chTo_zero, sx_take hk]
  unfold chTo chainS
  rw [List.take_length, List.flatMap_append]
  simp [endsOf, startsOf]
  rfl
theorem chTo_all (M : List Sx) : chTo es F T M M.length 0 0 = chainS es F T M := by rw [chTo_zero, List.take_length]
theorem chTo_succ {M : List Sx} {k i j : Nat} (hj : j < (startsOf es T (sxat M k)).length) : chTo es F T M k i (j + 1) = chTo es F T M k i j ++ [ch1 (sxat M k) (natat (endsOf es F (sxat M k)) i) (natat (startsOf es T (sxat M k)) j)] := by
  unfold chTo
  rw [nat_take hj, List.map_append, ← List.append_assoc]
  rfl
theorem chTo_pre0 {M : List Sx} {k : Nat} (hk : k ≤ M.length) : chTo es F T M k 0 0 <+: chainS es F T M := by
  rw [chTo_zero]
  refine ⟨chainS es F T (M.drop k), ?_⟩
  unfold chainS
  rw [← List.flatMap_append, List.take_append_drop]
theorem chTo_pre1 {M : List Sx} {k i : Nat} (hk : k < M.length) (hi : i ≤ (endsOf es F (sxat M k)).length) : chTo es F T M k i 0 <+: chainS es F T M := by
  refine List.IsPrefix.trans ?_ (chTo_pre0 es F T (k := k + 1) hk)
  rw [← chTo_full es F T hk]
  unfold chTo
  rw [List.take_length]
  simp only [List.take_zero, List.map_nil, List.append_nil]
  refine (List.prefix_append_right_inj _).2 ?_
  refine ⟨((endsOf es F (sxat M k)).drop i).flatMap fun a => (startsOf es T (sxat M k)).map (ch1 (sxat M k) a), ?_⟩
  rw [← List.flatMap_append, List.take_append_drop]
theorem chTo_pre {M : List Sx} {k i j : Nat} (hk : k < M.length) (hi : i < (endsOf es F (sxat M k)).length) : chTo es F T M k i j <+: chainS es F T M := by
  refine List.IsPrefix.trans ?_ (chTo_pre1 es F T (i := i + 1) hk hi)
  rw [← chTo_row es F T hi]
  unfold chTo
  refine (List.prefix_append_right_inj _).2 ?_
  rw [List.take_length]
  exact List.IsPrefix.map _ (List.take_prefix _ _)
/-- the next one that comes -/
theorem chTo_next {M : List Sx} {k i j : Nat} (hk : k < M.length) (hi : i < (endsOf es F (sxat M k)).length) (hj : j < (startsOf es T (sxat M k)).length) : (chTo es F T M k i j).length < (chainS es F T M).length ∧ lsat (chainS es F T M) (chTo es F T M k i j).length = ch1 (sxat M k) (natat (endsOf es F (sxat M k)) i) (natat (startsOf es T (sxat M k)) j) := by
  obtain ⟨r, hr⟩ := chTo_pre es F T (j := j + 1) hk hi
  rw [chTo_succ es F T hj] at hr
  rw [← hr]
  refine ⟨by simp, ?_⟩
  simp [lsat, List.getD_eq_getElem?_getD]
end
end Go.Proofs.YtcdjmpbdaiafgaaGreatDoor
