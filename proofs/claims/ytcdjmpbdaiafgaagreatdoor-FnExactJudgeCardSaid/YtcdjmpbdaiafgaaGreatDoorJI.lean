import Derived.Test.YtcdjmpbdaiafgaaGreatDoorJG
namespace Go.Proofs.YtcdjmpbdaiafgaaGreatDoor
open Go.RowKit Go.Sort
set_option linter.unusedVariables false
set_option maxRecDepth 100000

-- the program's cost of a turn
theorem turnTo_none {ts : List Tn} {a b : Int} : ∀ k, (∀ i, i < k → ¬ ((tat ts i).frm = a ∧ (tat ts i).to = b)) → turnTo ts a b k = 0
  | 0, _ => rfl
  | k + 1, h => by
    show turnTo ts a b k + _ = 0
    rw [turnTo_none k (fun i hi => h i (by omega)), if_neg (h k (by omega))]
    rfl
theorem turnTo_one {ts : List Tn} {a b : Int} {r : Nat} (hr : (tat ts r).frm = a ∧ (tat ts r).to = b) : ∀ k, r < k → (∀ i, i < k → (tat ts i).frm = a ∧ (tat ts i).to = b → i = r) → turnTo ts a b k = (tat ts r).cost
  | 0, h, _ => absurd h (Nat.not_lt_zero _)
  | k + 1, h, hu => by
    show turnTo ts a b k + _ = _
    by_cases hk : r = k
    · subst hk
      rw [turnTo_none r (fun i hi hm => by have := hu i (by omega) hm; omega), if_pos hr]
      omega
    · rw [turnTo_one hr k (by omega) (fun i hi => hu i (by omega)), if_neg (fun hm => hk (hu k (by omega) hm).symm)]
      omega
theorem turn_only {ts : List Tn} (ha : ascT ts = true) (hb : ∀ i, i < ts.length → tIn (tat ts i)) {a b : Int} {r : Nat} (hr : r < ts.length) (hm : (tat ts r).frm = a ∧ (tat ts r).to = b) : turnTo ts a b ts.length = (tat ts r).cost :=
  turnTo_one hm _ hr fun i hi h => by
    have hk : tkey (tat ts i) = tkey (tat ts r) := by unfold tkey; rw [h.1, h.2, hm.1, hm.2]
    rcases Nat.lt_trichotomy i r with q | q | q
    · have := ascT_mono ha hb i r q hr; omega
    · exact q
    · have := ascT_mono ha hb r i q hi; omega

theorem anyS_one2 {F : Fence} {n : Nat} {P : Program} {ops : Array Oper} {Q : Exit → Act → World → Prop} {md : Region.Mode} {S : World → Prop} {c i fuel : Nat} {listed : Array Bool} {a : Act} {w : World} (hr : Region.ready md ops listed = [i]) (hcl : Cl md ops listed) (h : Cl md ops (listed.setIfInBounds i true) → wpOpIn F n P ops Q i (fun a' w' => (c ≤ i ∨ S w') ∧ wpAnyS F n P md ops Q S c fuel (listed.setIfInBounds i true) a' w') a w) : wpAnyS F n P md ops Q S c (fuel + 1) listed a w :=
  anyS_one hr (h (hcl.step (by rw [hr]; simp)))

set_option maxHeartbeats 8000000 in
theorem turnCost_any (B : Nat) (N : Nt) (es : List Eg) (br be bf we wf e f : Nat) (v3 : Value) (w : World) (h3 : w.cell? ⟨br, 3, none⟩ = some v3) (h4 : w.cell? ⟨br, 4, none⟩ = some (.int .i64 N.uturn)) (hT : HTurns B w v3 N.turns)
    (he6 : w.cell? ⟨be, 6, none⟩ = some (.int .i64 (eat es e).twin)) (he8 : w.cell? ⟨be, 8, none⟩ = some (.pointer (some ⟨we, 0, none⟩))) (hwe : w.cell? ⟨we, 0, none⟩ = some (.int .i64 (wayId N es e)))
    (hf7 : w.cell? ⟨bf, 7, none⟩ = some (.int .i64 (f : Int))) (hf8 : w.cell? ⟨bf, 8, none⟩ = some (.pointer (some ⟨wf, 0, none⟩))) (hwf : w.cell? ⟨wf, 0, none⟩ = some (.int .i64 (wayId N es f)))
    (ha : ascT N.turns = true) (hb : ∀ i, i < N.turns.length → tIn (tat N.turns i)) (ht : tIn ⟨wayId N es e, wayId N es f, 0⟩) (hc : CostIn N es) :
    Calls Tryz.prog 82 #[.pointer (some ⟨br, 0, none⟩), .pointer (some ⟨be, 0, none⟩), .pointer (some ⟨bf, 0, none⟩)] w fun r w' => r = .returned (.int .i64 (turnC N es e f)) ∧ Nx w w' := by
  have HA : Hid (ascT N.turns = true) := ha
  have HB : Hid (∀ i, i < N.turns.length → tIn (tat N.turns i)) := hb
  have HTI : Hid (tIn ⟨wayId N es e, wayId N es f, 0⟩) := ht
  have HC : Hid (CostIn N es) := hc
  have HT : Hid (HTurns B w v3 N.turns) := hT
  have HTC : Hid (turnC N es e f = turnTo N.turns (wayId N es e) (wayId N es f) N.turns.length + if (eat es e).twin = (f : Int) then N.uturn else 0) := rfl
  obtain ⟨ta, tc, e3, mt, kt⟩ := hT
  unfold maxLen at mt
  generalize hnt : N.turns.length = nt at *
  have HNT : Hid (N.turns.length = nt) := hnt
  subst e3
  generalize hie : wayId N es e = ie at *
  generalize hjf : wayId N es f = jf at *
  clear ha hb ht hc hnt hie hjf
  go_enter Tryz.func82, Tryz.ntmps82
  have hmx : Tryz.prog.follows .mixedOrders = true := by kernel_rfl
  have HSN : Hid (∀ q, Nx w q → (fun q => q.cell? ⟨be, 8, none⟩ = some (.pointer (some ⟨we, 0, none⟩)) ∧ q.cell? ⟨we, 0, none⟩ = some (.int .i64 ie) ∧ q.cell? ⟨bf, 8, none⟩ = some (.pointer (some ⟨wf, 0, none⟩)) ∧ q.cell? ⟨wf, 0, none⟩ = some (.int .i64 jf)) q) := fun q hq => ⟨cellq hq he8, cellq hq hwe, cellq hq hf8, cellq hq hwf⟩
  have HSS : Hid ((fun q => q.cell? ⟨be, 8, none⟩ = some (.pointer (some ⟨we, 0, none⟩)) ∧ q.cell? ⟨we, 0, none⟩ = some (.int .i64 ie) ∧ q.cell? ⟨bf, 8, none⟩ = some (.pointer (some ⟨wf, 0, none⟩)) ∧ q.cell? ⟨wf, 0, none⟩ = some (.int .i64 jf)) w.drew) := ⟨he8, hwe, hf8, hwf⟩
  have HDR : Hid (Nx w w.drew) := (Below.refl _ _).drew
  have HCS : Hid (w.cell? ⟨br, 3, none⟩ = some (.slice ta nt tc) ∧ w.cell? ⟨br, 4, none⟩ = some (.int .i64 N.uturn) ∧ w.cell? ⟨be, 6, none⟩ = some (.int .i64 (eat es e).twin) ∧ w.cell? ⟨bf, 7, none⟩ = some (.int .i64 (f : Int))) := ⟨h3, h4, he6, hf7⟩
  clear he8 hwe hf8 hwf h3 h4 he6 hf7
  go_upto_region 2 with fail
  refine (wpIn_wide (n := 9)).1 ?_
  refine wpIn_region_S (c := 17) (S := fun q => q.cell? ⟨be, 8, none⟩ = some (.pointer (some ⟨we, 0, none⟩)) ∧ q.cell? ⟨we, 0, none⟩ = some (.int .i64 ie) ∧ q.cell? ⟨bf, 8, none⟩ = some (.pointer (some ⟨wf, 0, none⟩)) ∧ q.cell? ⟨wf, 0, none⟩ = some (.int .i64 jf)) hmx (by kernel_rfl) (fun hw hcl => ?_)
  refine anyS_take (i := 0) (v := .pointer (some ⟨be, 0, none⟩)) hw (by decide) hcl (noDefer_none rfl) rfl (by kernel_rfl) (by kernel_rfl) (by kernel_rfl) (fun _ _ _ h => h) ⟨Or.inl ⟨by kernel_rfl, ?y0⟩, fun _ => rfl⟩ HSS.out (fun hcl => ?_)
  case y0 =>
    rintro q ⟨c1, c2, c3, c4⟩
    go_simp
  refine anyS_take (i := 1) (v := .pointer (some ⟨be, 0, none⟩)) hw (by decide) hcl (noDefer_none rfl) rfl (by kernel_rfl) (by kernel_rfl) (by kernel_rfl) (fun _ _ _ h => h) ⟨Or.inl ⟨by kernel_rfl, ?y1⟩, fun _ => rfl⟩ HSS.out (fun hcl => ?_)
  case y1 =>
    rintro q ⟨c1, c2, c3, c4⟩
    go_simp
  refine anyS_take (i := 2) (v := .pointer (some ⟨be, 8, none⟩)) hw (by decide) hcl (noDefer_none rfl) rfl (by kernel_rfl) (by kernel_rfl) (by kernel_rfl) (fun _ _ _ h => h) ⟨Or.inl ⟨by kernel_rfl, ?y2⟩, fun _ => rfl⟩ HSS.out (fun hcl => ?_)
  case y2 =>
    rintro q ⟨c1, c2, c3, c4⟩
    go_simp
  refine anyS_take (i := 3) (v := .pointer (some ⟨we, 0, none⟩)) hw (by decide) hcl (noDefer_none rfl) rfl (by kernel_rfl) (by kernel_rfl) (by kernel_rfl) (fun _ _ _ h => h) ⟨Or.inl ⟨by kernel_rfl, ?y3⟩, fun _ => rfl⟩ HSS.out (fun hcl => ?_)
  case y3 =>
    rintro q ⟨c1, c2, c3, c4⟩
    go_simp
  refine anyS_take (i := 4) (v := .pointer (some ⟨we, 0, none⟩)) hw (by decide) hcl (noDefer_none rfl) rfl (by kernel_rfl) (by kernel_rfl) (by kernel_rfl) (fun _ _ _ h => h) ⟨Or.inl ⟨by kernel_rfl, ?y4⟩, fun _ => rfl⟩ HSS.out (fun hcl => ?_)
  case y4 =>
    rintro q ⟨c1, c2, c3, c4⟩
    go_simp
  refine anyS_take (i := 5) (v := .pointer (some ⟨we, 0, none⟩)) hw (by decide) hcl (noDefer_none rfl) rfl (by kernel_rfl) (by kernel_rfl) (by kernel_rfl) (fun _ _ _ h => h) ⟨Or.inl ⟨by kernel_rfl, ?y5⟩, fun _ => rfl⟩ HSS.out (fun hcl => ?_)
  case y5 =>
    rintro q ⟨c1, c2, c3, c4⟩
    go_simp
  refine anyS_take (i := 6) (v := .int .i64 ie) hw (by decide) hcl (noDefer_none rfl) rfl (by kernel_rfl) (by kernel_rfl) (by kernel_rfl) (fun _ _ _ h => h) ⟨Or.inl ⟨by kernel_rfl, ?y6⟩, fun _ => rfl⟩ HSS.out (fun hcl => ?_)
  case y6 =>
    rintro q ⟨c1, c2, c3, c4⟩
    go_simp
  refine anyS_take (i := 7) (v := .pointer (some ⟨bf, 0, none⟩)) hw (by decide) hcl (noDefer_none rfl) rfl (by kernel_rfl) (by kernel_rfl) (by kernel_rfl) (fun _ _ _ h => h) ⟨Or.inl ⟨by kernel_rfl, ?y7⟩, fun _ => rfl⟩ HSS.out (fun hcl => ?_)
  case y7 =>
    rintro q ⟨c1, c2, c3, c4⟩
    go_simp
  refine anyS_take (i := 8) (v := .pointer (some ⟨bf, 0, none⟩)) hw (by decide) hcl (noDefer_none rfl) rfl (by kernel_rfl) (by kernel_rfl) (by kernel_rfl) (fun _ _ _ h => h) ⟨Or.inl ⟨by kernel_rfl, ?y8⟩, fun _ => rfl⟩ HSS.out (fun hcl => ?_)
  case y8 =>
    rintro q ⟨c1, c2, c3, c4⟩
    go_simp
  refine anyS_take (i := 9) (v := .pointer (some ⟨bf, 8, none⟩)) hw (by decide) hcl (noDefer_none rfl) rfl (by kernel_rfl) (by kernel_rfl) (by kernel_rfl) (fun _ _ _ h => h) ⟨Or.inl ⟨by kernel_rfl, ?y9⟩, fun _ => rfl⟩ HSS.out (fun hcl => ?_)
  case y9 =>
    rintro q ⟨c1, c2, c3, c4⟩
    go_simp
  refine anyS_take (i := 10) (v := .pointer (some ⟨wf, 0, none⟩)) hw (by decide) hcl (noDefer_none rfl) rfl (by kernel_rfl) (by kernel_rfl) (by kernel_rfl) (fun _ _ _ h => h) ⟨Or.inl ⟨by kernel_rfl, ?y10⟩, fun _ => rfl⟩ HSS.out (fun hcl => ?_)
  case y10 =>
    rintro q ⟨c1, c2, c3, c4⟩
    go_simp
  refine anyS_take (i := 11) (v := .pointer (some ⟨wf, 0, none⟩)) hw (by decide) hcl (noDefer_none rfl) rfl (by kernel_rfl) (by kernel_rfl) (by kernel_rfl) (fun _ _ _ h => h) ⟨Or.inl ⟨by kernel_rfl, ?y11⟩, fun _ => rfl⟩ HSS.out (fun hcl => ?_)
  case y11 =>
    rintro q ⟨c1, c2, c3, c4⟩
    go_simp
  refine anyS_take (i := 12) (v := .pointer (some ⟨wf, 0, none⟩)) hw (by decide) hcl (noDefer_none rfl) rfl (by kernel_rfl) (by kernel_rfl) (by kernel_rfl) (fun _ _ _ h => h) ⟨Or.inl ⟨by kernel_rfl, ?y12⟩, fun _ => rfl⟩ HSS.out (fun hcl => ?_)
  case y12 =>
    rintro q ⟨c1, c2, c3, c4⟩
    go_simp
  refine anyS_take (i := 13) (v := .int .i64 jf) hw (by decide) hcl (noDefer_none rfl) rfl (by kernel_rfl) (by kernel_rfl) (by kernel_rfl) (fun _ _ _ h => h) ⟨Or.inl ⟨by kernel_rfl, ?y13⟩, fun _ => rfl⟩ HSS.out (fun hcl => ?_)
  case y13 =>
    rintro q ⟨c1, c2, c3, c4⟩
    go_simp
  refine anyS_take (i := 14) (v := .agg #[.int .i64 ie, .int .i64 jf, .int .i64 0]) hw (by decide) hcl (noDefer_none rfl) rfl (by kernel_rfl) (by kernel_rfl) (by kernel_rfl) (fun _ _ _ h => h) ⟨Or.inl ⟨by kernel_rfl, ?y14⟩, fun _ => rfl⟩ HSS.out (fun hcl => ?_)
  case y14 =>
    rintro q ⟨c1, c2, c3, c4⟩
    go_simp
  refine anyS_one (i := 15) (by kernel_rfl) (wpOpIn_step rfl (fun K hK => ?_))
  go_simp
  refine hK _ _ ⟨Or.inr (HSN.out _ (box1 _ _).drew), ?_⟩
  clear hK K
  refine anyS_one (i := 16) (by kernel_rfl) (wpOpIn_step rfl (fun K hK => ?_))
  go_simp
  generalize hWB : (w.alloc (.cells #[.int .i64 ie, .int .i64 jf, .int .i64 0] 95)).drew = wB at *
  have HXB : Hid (Nx w wB) := by unfold Hid; rw [← hWB]; exact (box1 _ _).drew
  have BB : Hid (BT wB w.heap.size #[.int .i64 ie, .int .i64 jf, .int .i64 0] 95) := by unfold Hid; rw [← hWB]; exact BT.new w _ _ _ rfl
  clear hWB
  refine hK _ _ ⟨Or.inr (HSN.out _ HXB.out), ?_⟩
  clear hK K
  refine anyS_done (by kernel_rfl) ?_ _
  clear hw hcl HSS HSN HDR
  have HTB : Hid (HTurns B wB (.slice ta nt tc) N.turns) := HTurns.keep HT.out (HXB.out.keeps B)
  have HSN : Hid (∀ q, Nx wB q → (fun q => q.cell? ⟨br, 3, none⟩ = some (.slice ta nt tc) ∧ q.cell? ⟨w.heap.size, 0, none⟩ = some (.int .i64 ie) ∧ q.cell? ⟨w.heap.size, 1, none⟩ = some (.int .i64 jf) ∧ q.cell? ⟨w.heap.size, 2, none⟩ = some (.int .i64 0)) q) := fun q hq => ⟨cellq hq (cellq HXB.out HCS.out.1), cellq hq (BB.out.blk.cell (i := 0) rfl), cellq hq (BB.out.blk.cell (i := 1) rfl), cellq hq (BB.out.blk.cell (i := 2) rfl)⟩
  have HDR : Hid (Nx wB wB.drew) := (Below.refl _ _).drew
  have HSS : Hid ((fun q => q.cell? ⟨br, 3, none⟩ = some (.slice ta nt tc) ∧ q.cell? ⟨w.heap.size, 0, none⟩ = some (.int .i64 ie) ∧ q.cell? ⟨w.heap.size, 1, none⟩ = some (.int .i64 jf) ∧ q.cell? ⟨w.heap.size, 2, none⟩ = some (.int .i64 0)) wB.drew) := HSN.out _ HDR.out
  go_upto_region 3 with fail
  refine (wpIn_wide (n := 9)).1 ?_
  refine wpIn_region_S (c := 12) (S := fun q => q.cell? ⟨br, 3, none⟩ = some (.slice ta nt tc) ∧ q.cell? ⟨w.heap.size, 0, none⟩ = some (.int .i64 ie) ∧ q.cell? ⟨w.heap.size, 1, none⟩ = some (.int .i64 jf) ∧ q.cell? ⟨w.heap.size, 2, none⟩ = some (.int .i64 0)) hmx (by kernel_rfl) (fun hw hcl => ?_)
  refine anyS_take (i := 0) (v := .pointer (some ⟨br, 0, none⟩)) hw (by decide) hcl (noDefer_none rfl) rfl (by kernel_rfl) (by kernel_rfl) (by kernel_rfl) (fun _ _ _ h => h) ⟨Or.inl ⟨by kernel_rfl, ?y0⟩, fun _ => rfl⟩ HSS.out (fun hcl => ?_)
  case y0 =>
    rintro q ⟨c1, c2, c3, c4⟩
    go_simp
  refine anyS_take (i := 1) (v := .pointer (some ⟨br, 0, none⟩)) hw (by decide) hcl (noDefer_none rfl) rfl (by kernel_rfl) (by kernel_rfl) (by kernel_rfl) (fun _ _ _ h => h) ⟨Or.inl ⟨by kernel_rfl, ?y1⟩, fun _ => rfl⟩ HSS.out (fun hcl => ?_)
  case y1 =>
    rintro q ⟨c1, c2, c3, c4⟩
    go_simp
  refine anyS_take (i := 2) (v := .pointer (some ⟨br, 0, none⟩)) hw (by decide) hcl (noDefer_none rfl) rfl (by kernel_rfl) (by kernel_rfl) (by kernel_rfl) (fun _ _ _ h => h) ⟨Or.inl ⟨by kernel_rfl, ?y2⟩, fun _ => rfl⟩ HSS.out (fun hcl => ?_)
  case y2 =>
    rintro q ⟨c1, c2, c3, c4⟩
    go_simp
  refine anyS_take (i := 3) (v := .pointer (some ⟨br, 3, none⟩)) hw (by decide) hcl (noDefer_none rfl) rfl (by kernel_rfl) (by kernel_rfl) (by kernel_rfl) (fun _ _ _ h => h) ⟨Or.inl ⟨by kernel_rfl, ?y3⟩, fun _ => rfl⟩ HSS.out (fun hcl => ?_)
  case y3 =>
    rintro q ⟨c1, c2, c3, c4⟩
    go_simp
  refine anyS_take (i := 4) (v := .slice ta nt tc) hw (by decide) hcl (noDefer_none rfl) rfl (by kernel_rfl) (by kernel_rfl) (by kernel_rfl) (fun _ _ _ h => h) ⟨Or.inl ⟨by kernel_rfl, ?y4⟩, fun _ => rfl⟩ HSS.out (fun hcl => ?_)
  case y4 =>
    rintro q ⟨c1, c2, c3, c4⟩
    go_simp
  refine anyS_take (i := 5) (v := .agg #[.int .i64 ie, .int .i64 jf, .int .i64 0]) hw (by decide) hcl (noDefer_none rfl) rfl (by kernel_rfl) (by kernel_rfl) (by kernel_rfl) (fun _ _ _ h => h) ⟨Or.inl ⟨by kernel_rfl, ?y5⟩, fun _ => rfl⟩ HSS.out (fun hcl => ?_)
  case y5 =>
    rintro q ⟨c1, c2, c3, c4⟩
    go_simp
  refine anyS_one2 (i := 6) (by kernel_rfl) hcl (fun hcl => wpOpIn_step rfl (fun K hK => ?_))
  go_simp
  refine ⟨trivial, (callsIn_wide.2 (binTurns_any B _ N.turns ⟨ie, jf, 0⟩ _ (HTurns.keep HTB.out (HDR.out.keeps B)) HA.out (by rw [HNT.out]; exact HB.out) HTI.out)).mono ?_⟩
  rintro e7 w7 ⟨⟨r, bb, rfl, hy, hno⟩, hx7⟩
  have HX7 : Hid (Nx wB w7) := HDR.out.trans hx7
  have HS7 : Hid ((fun q => q.cell? ⟨br, 3, none⟩ = some (.slice ta nt tc) ∧ q.cell? ⟨w.heap.size, 0, none⟩ = some (.int .i64 ie) ∧ q.cell? ⟨w.heap.size, 1, none⟩ = some (.int .i64 jf) ∧ q.cell? ⟨w.heap.size, 2, none⟩ = some (.int .i64 0)) w7) := HSN.out _ HX7.out
  have HYS : Hid (bb = true → r < N.turns.length ∧ (tat N.turns r).frm = ie ∧ (tat N.turns r).to = jf) := hy
  have HNO : Hid (bb = false → ∀ i, i < N.turns.length → ¬ ((tat N.turns i).frm = ie ∧ (tat N.turns i).to = jf)) := hno
  refine hK _ _ ⟨Or.inr HS7.out, ?_⟩
  clear hK K hx7 hy hno
  refine anyS_take (i := 7) (v := .tuple #[.int .i64 (r : Int), .bool bb]) hw (by decide) hcl (noDefer_none rfl) rfl (by kernel_rfl) (by kernel_rfl) (by kernel_rfl) (fun _ _ _ h => h) ⟨Or.inl ⟨by kernel_rfl, ?y7⟩, fun _ => rfl⟩ HS7.out (fun hcl => ?_)
  case y7 =>
    rintro q ⟨c1, c2, c3, c4⟩
    go_simp
  refine anyS_take (i := 8) (v := .int .i64 (r : Int)) hw (by decide) hcl (noDefer_none rfl) rfl (by kernel_rfl) (by kernel_rfl) (by kernel_rfl) (fun _ _ _ h => h) ⟨Or.inl ⟨by kernel_rfl, ?y8⟩, fun _ => rfl⟩ HS7.out (fun hcl => ?_)
  case y8 =>
    rintro q ⟨c1, c2, c3, c4⟩
    go_simp
  refine anyS_take (i := 9) (v := .bool bb) hw (by decide) hcl (noDefer_none rfl) rfl (by kernel_rfl) (by kernel_rfl) (by kernel_rfl) (fun _ _ _ h => h) ⟨Or.inl ⟨by kernel_rfl, ?y9⟩, fun _ => rfl⟩ HS7.out (fun hcl => ?_)
  case y9 =>
    rintro q ⟨c1, c2, c3, c4⟩
    go_simp
  refine anyS_one (i := 10) (by kernel_rfl) (wpOpIn_step rfl (fun K hK => ?_))
  go_simp
  refine hK _ _ ⟨Or.inr HS7.out, ?_⟩
  clear hK K
  refine anyS_one (i := 11) (by kernel_rfl) (wpOpIn_step rfl (fun K hK => ?_))
  go_simp
  refine hK _ _ ⟨Or.inr HS7.out, ?_⟩
  clear hK K
  refine anyS_done (by kernel_rfl) ?_ _
  clear hw hcl HSS HSN HDR
  have HXW : Hid (Nx w w7) := HXB.out.trans HX7.out
  have u3 := HS7.out.1
  have u4 := cellq HXW.out HCS.out.2.1
  have u6 := cellq HXW.out HCS.out.2.2.1
  have u7 := cellq HXW.out HCS.out.2.2.2
  have hut := HC.out.uturn
  generalize (eat es e).twin = tw at *
  generalize N.uturn = ut at *
  cases bb with
  | true =>
    obtain ⟨hr, hm⟩ := HYS.out rfl
    have HTO : Hid (turnTo N.turns ie jf nt = (tat N.turns r).cost) := by unfold Hid; rw [← HNT.out]; exact turn_only HA.out (by rw [HNT.out]; exact HB.out) hr hm
    have hct := HC.out.cost r hr
    rw [HNT.out] at hr
    obtain ⟨b, off, rfl, _, _, kt2⟩ := kt (by omega)
    have u8 := cellq HXW.out (kt2 r hr).2.2
    generalize (tat N.turns r).cost = ct at *
    have hr' : (r : Int) < nt := by omega
    have i1 := Go.IntWalk.i64_in ct ⟨by omega, by omega⟩
    have i2 := Go.IntWalk.i64_in (ct + ut) ⟨by omega, by omega⟩
    clear kt kt2 hm HYS HNO HB HTI HA
    go_upto_region 6 with fail
    by_cases htw : tw = (f : Int)
    · have HF : Hid (turnC N es e f = ct + ut) := by unfold Hid; rw [HTC.out, HTO.out, if_pos htw]
      have dt : (tw == (f : Int)) = true := by simpa using htw
      clear htw
      go_quiet (fail)
      have HXQ : Hid (Nx w (w7.drewN nq)) := HXW.out.trans (nx_drewN _ _)
      have u4' := cellq (nx_drewN w7 nq) u4
      go_wp2
      go_ret
      exact ⟨by rw [HF.out]; try rfl, HXQ.out⟩
    · have HF : Hid (turnC N es e f = ct) := by unfold Hid; rw [HTC.out, HTO.out, if_neg htw]; omega
      have dt : (tw == (f : Int)) = false := by simpa using htw
      clear htw
      go_quiet (fail)
      have HXQ : Hid (Nx w (w7.drewN nq)) := HXW.out.trans (nx_drewN _ _)
      go_wp2
      go_ret
      exact ⟨by rw [HF.out]; try rfl, HXQ.out⟩
  | false =>
    have HTO : Hid (turnTo N.turns ie jf nt = 0) := turnTo_none nt (fun i hi => HNO.out rfl i (by rw [HNT.out]; exact hi))
    have i2 := Go.IntWalk.i64_in ut ⟨by omega, by omega⟩
    clear kt HYS HNO HB HTI HA
    go_upto_region 6 with fail
    by_cases htw : tw = (f : Int)
    · have HF : Hid (turnC N es e f = ut) := by unfold Hid; rw [HTC.out, HTO.out, if_pos htw]; omega
      have dt : (tw == (f : Int)) = true := by simpa using htw
      clear htw
      go_quiet (fail)
      have HXQ : Hid (Nx w (w7.drewN nq)) := HXW.out.trans (nx_drewN _ _)
      have u4' := cellq (nx_drewN w7 nq) u4
      go_wp2
      go_ret
      exact ⟨by rw [HF.out]; try rfl, HXQ.out⟩
    · have HF : Hid (turnC N es e f = 0) := by unfold Hid; rw [HTC.out, HTO.out, if_neg htw]; omega
      have dt : (tw == (f : Int)) = false := by simpa using htw
      clear htw
      go_quiet (fail)
      have HXQ : Hid (Nx w (w7.drewN nq)) := HXW.out.trans (nx_drewN _ _)
      go_wp2
      go_ret
      exact ⟨by rw [HF.out]; try rfl, HXQ.out⟩
end Go.Proofs.YtcdjmpbdaiafgaaGreatDoor
namespace Go.Proofs.YtcdjmpbdaiafgaaGreatDoor
open Go.RowKit Go.Sort
set_option linter.unusedVariables false
set_option maxRecDepth 100000

-- the rules that are asked at an edge are those that can be broken there
theorem sfx_ew {walk seq : List Int} {k : Nat} (hk : k ≤ walk.length) : sfx walk k seq = ewB (walk.take k) seq := by
  unfold sfx ewB
  have hl : (walk.take k).length = k := by simp; omega
  rw [decide_eq_decide, hl]
  constructor
  · rintro ⟨h1, h2⟩
    refine ⟨h1, ?_⟩
    apply List.ext_getElem
    · simp; omega
    · intro i hi hj
      have := h2 i hj
      rw [iat_eq (by omega), iat_eq hj] at this
      rw [← this]
      simp
  · rintro ⟨h1, h2⟩
    refine ⟨h1, fun i hi => ?_⟩
    rw [iat_eq (by omega), iat_eq hi]
    have h3 : i < ((walk.take k).drop (k - seq.length)).length := by simp; omega
    have h4 : ((walk.take k).drop (k - seq.length))[i] = seq[i] := by simp only [h2]
    rw [← h4]
    simp
/-- a sequence that the first i + 1 edges end with has edge i last -/
theorem sfx_last {walk seq : List Int} {i : Nat} (h : sfx walk (i + 1) seq = true) (hs : 1 ≤ seq.length) : iat seq (seq.length - 1) = iat walk i := by
  unfold sfx at h
  rw [decide_eq_true_eq] at h
  have := h.2 (seq.length - 1) (by omega)
  rw [← this, show i + 1 - seq.length + (seq.length - 1) = i by omega]
/-- edge i - 1 last but one -/
theorem sfx_but {walk seq : List Int} {i : Nat} (h : sfx walk i (seq.take (seq.length - 1)) = true) (hs : 2 ≤ seq.length) : 0 < i ∧ iat seq (seq.length - 2) = iat walk (i - 1) := by
  unfold sfx at h
  rw [decide_eq_true_eq] at h
  have hl : (seq.take (seq.length - 1)).length = seq.length - 1 := by simp
  rw [hl] at h
  have h2 := h.2 (seq.length - 2) (by omega)
  have e1 : iat (seq.take (seq.length - 1)) (seq.length - 2) = iat seq (seq.length - 2) := by
    rw [iat_eq (by omega), iat_eq (by omega)]
    simp
  rw [e1] at h2
  refine ⟨by omega, ?_⟩
  rw [← h2, show i - (seq.length - 1) + (seq.length - 2) = i - 1 by omega]
/-- the bans hung on edge e, of the first k rules -/
def bansTo (rules : List Ru) (e : Int) (k : Nat) : List Nat := (List.range k).filter fun j => !(ruat rules j).only && decide (iat (ruat rules j).seq ((ruat rules j).seq.length - 1) = e)
/-- the musts -/
def mustsTo (rules : List Ru) (e : Int) (k : Nat) : List Nat := (List.range k).filter fun j => (ruat rules j).only && decide (iat (ruat rules j).seq ((ruat rules j).seq.length - 2) = e)
theorem bansTo_succ (rules : List Ru) (e : Int) (k : Nat) : bansTo rules e (k + 1) = bansTo rules e k ++ if (ruat rules k).only = false ∧ iat (ruat rules k).seq ((ruat rules k).seq.length - 1) = e then [k] else [] := by
  unfold bansTo
  rw [List.range_succ, List.filter_append]
  congr 1
  by_cases h1 : (ruat rules k).only = true
  · simp [h1]
  · have h1' : (ruat rules k).only = false := by simpa using h1
    by_cases h2 : iat (ruat rules k).seq ((ruat rules k).seq.length - 1) = e
    · simp [h1', h2]
    · simp [h1', h2]
theorem mustsTo_succ (rules : List Ru) (e : Int) (k : Nat) : mustsTo rules e (k + 1) = mustsTo rules e k ++ if (ruat rules k).only = true ∧ iat (ruat rules k).seq ((ruat rules k).seq.length - 2) = e then [k] else [] := by
  unfold mustsTo
  rw [List.range_succ, List.filter_append]
  congr 1
  by_cases h1 : (ruat rules k).only = true
  · by_cases h2 : iat (ruat rules k).seq ((ruat rules k).seq.length - 2) = e
    · simp [h1, h2]
    · simp [h1, h2]
  · have h1' : (ruat rules k).only = false := by simpa using h1
    simp [h1']
theorem any_at {rules : List Ru} {p : Ru → Bool} : rules.any p = (List.range rules.length).any fun j => p (ruat rules j) := by
  rw [Bool.eq_iff_iff, List.any_eq_true, List.any_eq_true]
  constructor
  · rintro ⟨x, hx, h⟩
    obtain ⟨j, hj, rfl⟩ := List.getElem_of_mem hx
    exact ⟨j, List.mem_range.2 hj, by rw [ruat_eq hj]; exact h⟩
  · rintro ⟨j, hj, h⟩
    have hj := List.mem_range.1 hj
    rw [ruat_eq hj] at h
    exact ⟨_, List.getElem_mem hj, h⟩
theorem any_filter {l : List Nat} {p q : Nat → Bool} (h : ∀ j ∈ l, p j = true → q j = true) : l.any p = (l.filter q).any p := by
  rw [Bool.eq_iff_iff, List.any_eq_true, List.any_eq_true]
  constructor
  · rintro ⟨j, hj, hp⟩
    exact ⟨j, List.mem_filter.2 ⟨hj, h j hj hp⟩, hp⟩
  · rintro ⟨j, hj, hp⟩
    exact ⟨j, (List.mem_filter.1 hj).1, hp⟩
/-- the bans asked at edge i of a walk -/
theorem bans_asked {rules : List Ru} {walk : List Int} {i : Nat} (hs : ∀ j, j < rules.length → 2 ≤ (ruat rules j).seq.length) (hi : i < walk.length) : rules.any (banB walk i) = (bansTo rules (iat walk i) rules.length).any fun j => ewB (walk.take (i + 1)) (ruat rules j).seq := by
  rw [any_at, any_filter (q := fun j => !(ruat rules j).only && decide (iat (ruat rules j).seq ((ruat rules j).seq.length - 1) = iat walk i))]
  · show (bansTo rules (iat walk i) rules.length).any _ = _
    rw [Bool.eq_iff_iff, List.any_eq_true, List.any_eq_true]
    constructor
    · rintro ⟨j, hj, h⟩
      refine ⟨j, hj, ?_⟩
      unfold banB at h
      rw [Bool.and_eq_true] at h
      rw [← sfx_ew (by omega)]
      exact h.2
    · rintro ⟨j, hj, h⟩
      refine ⟨j, hj, ?_⟩
      have hq := (List.mem_filter.1 hj).2
      rw [Bool.and_eq_true] at hq
      rw [← sfx_ew (by omega)] at h
      unfold banB
      rw [hq.1, h]
      rfl
  · intro j hj h
    have hj := List.mem_range.1 hj
    unfold banB at h
    rw [Bool.and_eq_true] at h
    rw [h.1, sfx_last h.2 (by have := hs j hj; omega)]
    simp
/-- the musts asked at edge i of a walk: those hung on the edge before -/
theorem musts_asked {rules : List Ru} {walk : List Int} {i : Nat} (hs : ∀ j, j < rules.length → 2 ≤ (ruat rules j).seq.length) (hi : i < walk.length) : rules.any (mustB walk i) = (decide (0 < i) && (mustsTo rules (iat walk (i - 1)) rules.length).any fun j => ewB (walk.take i) ((ruat rules j).seq.take ((ruat rules j).seq.length - 1)) && (iat (ruat rules j).seq ((ruat rules j).seq.length - 1) != iat walk i)) := by
  by_cases h0 : 0 < i
  · rw [any_at, any_filter (q := fun j => (ruat rules j).only && decide (iat (ruat rules j).seq ((ruat rules j).seq.length - 2) = iat walk (i - 1)))]
    · show (mustsTo rules (iat walk (i - 1)) rules.length).any _ = _
      rw [decide_eq_true h0, Bool.true_and, Bool.eq_iff_iff, List.any_eq_true, List.any_eq_true]
      constructor
      · rintro ⟨j, hj, h⟩
        refine ⟨j, hj, ?_⟩
        unfold mustB at h
        simp only [Bool.and_eq_true] at h ⊢
        rw [← sfx_ew (by omega)]
        refine ⟨h.2.1, ?_⟩
        have := h.2.2
        simp only [bne_iff_ne] at this ⊢
        exact Ne.symm this
      · rintro ⟨j, hj, h⟩
        refine ⟨j, hj, ?_⟩
        have hq := (List.mem_filter.1 hj).2
        simp only [Bool.and_eq_true] at hq h
        rw [← sfx_ew (by omega)] at h
        unfold mustB
        simp only [Bool.and_eq_true]
        refine ⟨hq.1, h.1, ?_⟩
        have := h.2
        simp only [bne_iff_ne] at this ⊢
        exact Ne.symm this
    · intro j hj h
      have hj := List.mem_range.1 hj
      unfold mustB at h
      simp only [Bool.and_eq_true] at h
      rw [h.1, (sfx_but h.2.1 (hs j hj)).2]
      simp
  · rw [decide_eq_false h0, Bool.false_and, List.any_eq_false]
    intro x hx h
    obtain ⟨j, hj, rfl⟩ := List.getElem_of_mem hx
    unfold mustB at h
    simp only [Bool.and_eq_true] at h
    have h2 := hs j hj
    rw [ruat_eq hj] at h2
    exact h0 (sfx_but h.2.1 h2).1
end Go.Proofs.YtcdjmpbdaiafgaaGreatDoor
namespace Go.Proofs.YtcdjmpbdaiafgaaGreatDoor
open Go.RowKit Go.Sort
set_option linter.unusedVariables false
set_option maxRecDepth 100000

-- rules hung on the edges of a linked road
theorem infoPtrR : (Tryz.prog.info? 142).map (fun i => (i.zero, i.size, i.bytes)) = some (some (.pointer none), 1, 8) := by kernel_rfl
/-- pointers to rules of the row at block g -/
def prc (g : Nat) (ps : List Nat) : List Value := ps.map fun j => .pointer (some ⟨g, j * 3, none⟩)
def OwnRp (C : Nat) (w : World) (v : Value) (g : Nat) (ps : List Nat) : Prop := w.ownsRow C 142 1 v ps.length (prc g ps)
theorem OwnRp.next {C : Nat} {w w' : World} {v : Value} {g : Nat} {ps : List Nat} (h : OwnRp C w v g ps) (k : Nx w w') : OwnRp C w' v g ps := row_next h k
theorem OwnRp.snoc {C : Nat} {w : World} {v : Value} {g : Nat} {ps : List Nat} {p : Nat} (h : w.ownsRow C 142 1 v (ps.length + 1) (prc g ps ++ [.pointer (some ⟨g, p * 3, none⟩)])) : OwnRp C w v g (ps ++ [p]) := by
  unfold OwnRp
  have e : prc g (ps ++ [p]) = prc g ps ++ [.pointer (some ⟨g, p * 3, none⟩)] := by simp [prc]
  rw [List.length_append, e]
  exact h
/-- its cells -/
theorem OwnRp.held {C : Nat} {w : World} {v : Value} {g : Nat} {ps : List Nat} (h : OwnRp C w v g ps) : HSlice C w v ps.length fun b off i => w.cell? ⟨b, off + i, none⟩ = some (.pointer (some ⟨g, ps.getD i 0 * 3, none⟩)) := by
  by_cases hp : 0 < ps.length
  · obtain ⟨h1, h2⟩ := h
    rcases h2 with ⟨_, h3⟩ | ⟨b, cap, cur, hv, hg, hh, hc, hm, hs, ht⟩
    · omega
    · refine ⟨_, _, hv, by omega, fun _ => ⟨b, 0, rfl, hg, (Array.getElem?_eq_some_iff.1 hh).1, fun i hi => ?_⟩⟩
      have e : (cur.toList.take (ps.length * 1))[i]? = (prc g ps)[i]? := by rw [ht]
      rw [List.getElem?_take_of_lt (by omega), Array.getElem?_toList] at e
      have e2 : (prc g ps)[i]? = some (.pointer (some ⟨g, ps.getD i 0 * 3, none⟩)) := by simp [prc, List.getD_eq_getElem?_getD, hi]
      rw [e2] at e
      show w.cell? ⟨b, 0 + i, none⟩ = _
      rw [Nat.zero_add]
      unfold World.cell?
      simp [hh, e]
  · obtain ⟨a, c, e⟩ := row_slice h
    have h0 : ps.length = 0 := by omega
    exact ⟨a, c, e, by rw [h0]; simp [maxLen], fun h => by omega⟩
/-- an edge's cells, with what hangs on it -/
def hcell (es : List Eg) (wb : Nat → Nat) (bv mv : Nat → Value) (e : Nat) : Array Value := #[.int .i64 (eat es e).tail, .int .i64 (eat es e).head, .int .i64 (eat es e).weight, .int .i64 (eat es e).way, .int .i64 (eat es e).seg, .bool (eat es e).back, .int .i64 (eat es e).twin, .int .i64 (e : Int), .pointer (some ⟨wb (eat es e).way.toNat, 0, none⟩), bv e, mv e]
/-- the first k rules hung -/
structure Hung (C : Nat) (es : List Eg) (wb eb : Nat → Nat) (g : Nat) (rules : List Ru) (k : Nat) (w : World) (bv mv : Nat → Value) : Prop where
  edge : ∀ e, e < es.length → BT w (eb e) (hcell es wb bv mv e) 123
  bans : ∀ e, e < es.length → OwnRp C w (bv e) g (bansTo rules e k)
  musts : ∀ e, e < es.length → OwnRp C w (mv e) g (mustsTo rules e k)
  apB : ∀ e f b, e < es.length → f < es.length → e ≠ f → (bv e).ownBlock = some b → (bv f).ownBlock ≠ some b
  apM : ∀ e f b, e < es.length → f < es.length → e ≠ f → (mv e).ownBlock = some b → (mv f).ownBlock ≠ some b
  apX : ∀ e f b, e < es.length → f < es.length → (bv e).ownBlock = some b → (mv f).ownBlock ≠ some b
theorem Hung.start {C : Nat} {es : List Eg} {wb eb : Nat → Nat} {g : Nat} {rules : List Ru} {w : World} (h : ∀ e, e < es.length → BT w (eb e) (ecell es wb e) 123) : Hung C es wb eb g rules 0 w (fun _ => .slice none 0 0) (fun _ => .slice none 0 0) where
  edge := h
  bans := fun e he => ⟨rfl, .inl ⟨rfl, rfl⟩⟩
  musts := fun e he => ⟨rfl, .inl ⟨rfl, rfl⟩⟩
  apB := fun e f b _ _ _ h => by cases h
  apM := fun e f b _ _ _ h => by cases h
  apX := fun e f b _ _ h => by cases h
theorem Hung.next {C : Nat} {es : List Eg} {wb eb : Nat → Nat} {g : Nat} {rules : List Ru} {k : Nat} {w w' : World} {bv mv : Nat → Value} (h : Hung C es wb eb g rules k w bv mv) (n : Nx w w') : Hung C es wb eb g rules k w' bv mv where
  edge := fun e he => (h.edge e he).next n
  bans := fun e he => (h.bans e he).next n
  musts := fun e he => (h.musts e he).next n
  apB := h.apB
  apM := h.apM
  apX := h.apX
/-- edges lie apart -/
theorem Hung.inj {C : Nat} {es : List Eg} {wb eb : Nat → Nat} {g : Nat} {rules : List Ru} {k : Nat} {w : World} {bv mv : Nat → Value} (h : Hung C es wb eb g rules k w bv mv) {e f : Nat} (he : e < es.length) (hf : f < es.length) (q : eb e = eb f) : e = f := by
  have h1 := (h.edge e he).blk.cell (i := 7) rfl
  have h2 := (h.edge f hf).blk.cell (i := 7) rfl
  rw [q, h2] at h1
  have := Option.some.inj h1
  simp [hcell] at this
  omega
end Go.Proofs.YtcdjmpbdaiafgaaGreatDoor
namespace Go.Proofs.YtcdjmpbdaiafgaaGreatDoor
open Go.RowKit Go.Sort
set_option linter.unusedVariables false
set_option maxRecDepth 100000

theorem rowB_lt {C t sz n : Nat} {w : World} {v : Value} {xs : List Value} (h : w.ownsRow C t sz v n xs) {g : Nat} (hg : v.ownBlock = some g) : g < w.heap.size := by
  rcases h.2 with ⟨rfl, _⟩ | ⟨b, cap, cur, rfl, _, hh, _⟩
  · cases hg
  · have e : b = g := by simpa [Value.ownBlock] using hg
    subst e
    exact (Array.getElem?_eq_some_iff.1 hh).1
theorem bansTo_not {rules : List Ru} {e : Int} {k : Nat} (h : (ruat rules k).only = true ∨ iat (ruat rules k).seq ((ruat rules k).seq.length - 1) ≠ e) : bansTo rules e (k + 1) = bansTo rules e k := by
  rw [bansTo_succ, if_neg, List.append_nil]
  rintro ⟨h1, h2⟩
  rcases h with h | h
  · rw [h] at h1; cases h1
  · exact h h2
theorem mustsTo_not {rules : List Ru} {e : Int} {k : Nat} (h : (ruat rules k).only = false ∨ iat (ruat rules k).seq ((ruat rules k).seq.length - 2) ≠ e) : mustsTo rules e (k + 1) = mustsTo rules e k := by
  rw [mustsTo_succ, if_neg, List.append_nil]
  rintro ⟨h1, h2⟩
  rcases h with h | h
  · rw [h] at h1; cases h1
  · exact h h2
section
variable {C : Nat} {es : List Eg} {wb eb : Nat → Nat} {g : Nat} {rules : List Ru} {k : Nat} {w w' : World} {bv mv : Nat → Value}
/-- a ban more -/
theorem Hung.ban (h : Hung C es wb eb g rules k w bv mv) {e : Nat} (he : e < es.length) (ho : (ruat rules k).only = false) (hl : iat (ruat rules k).seq ((ruat rules k).seq.length - 1) = (e : Int)) {v : Value}
    (hc : Chg (fun x => some x = (bv e).ownBlock ∨ x = eb e) w w') (hr : OwnRp C w' v g (bansTo rules e k ++ [k])) (hv : ∀ b, v.ownBlock = some b → (bv e).ownBlock = some b ∨ w.heap.size ≤ b)
    (hb : BT w' (eb e) (hcell es wb (upd bv e v) mv e) 123) : Hung C es wb eb g rules (k + 1) w' (upd bv e v) mv where
  edge := fun f hf => by
    by_cases q : f = e
    · subst q; exact hb
    · have h1 := h.edge f hf
      have : hcell es wb (upd bv e v) mv f = hcell es wb bv mv f := by unfold hcell; rw [upd_ne _ _ q]
      rw [this]
      refine h1.chg hc (fun x => ?_)
      rcases x with x | x
      · exact h1.neRow (h.bans e he) (by decide) x
      · exact q (h.inj hf he x)
  bans := fun f hf => by
    by_cases q : f = e
    · subst q
      rw [upd_at, bansTo_succ, if_pos ⟨ho, hl⟩]
      exact hr
    · rw [upd_ne _ _ q, bansTo_not (Or.inr (by rw [hl]; omega))]
      refine row_chg (h.bans f hf) hc (fun b hb x => ?_)
      rcases x with x | x
      · exact h.apB f e b hf he q hb x.symm
      · subst x; exact (h.edge e he).neRow (h.bans f hf) (by decide) hb.symm
  musts := fun f hf => by
    rw [mustsTo_not (Or.inl ho)]
    refine row_chg (h.musts f hf) hc (fun b hb x => ?_)
    rcases x with x | x
    · exact h.apX e f b he hf x.symm hb
    · subst x; exact (h.edge e he).neRow (h.musts f hf) (by decide) hb.symm
  apB := fun f f' b hf hf' hn h1 h2 => by
    by_cases q : f = e
    · subst q
      rw [upd_at] at h1
      rw [upd_ne _ _ (fun x => hn x.symm)] at h2
      rcases hv b h1 with x | x
      · exact h.apB f f' b hf hf' hn x h2
      · have := rowB_lt (h.bans f' hf') h2; omega
    · rw [upd_ne _ _ q] at h1
      by_cases q' : f' = e
      · subst q'
        rw [upd_at] at h2
        rcases hv b h2 with x | x
        · exact h.apB f f' b hf hf' hn h1 x
        · have := rowB_lt (h.bans f hf) h1; omega
      · rw [upd_ne _ _ q'] at h2
        exact h.apB f f' b hf hf' hn h1 h2
  apM := h.apM
  apX := fun f f' b hf hf' h1 h2 => by
    by_cases q : f = e
    · subst q
      rw [upd_at] at h1
      rcases hv b h1 with x | x
      · exact h.apX f f' b hf hf' x h2
      · have := rowB_lt (h.musts f' hf') h2; omega
    · rw [upd_ne _ _ q] at h1
      exact h.apX f f' b hf hf' h1 h2
/-- a must more -/
theorem Hung.must (h : Hung C es wb eb g rules k w bv mv) {e : Nat} (he : e < es.length) (ho : (ruat rules k).only = true) (hl : iat (ruat rules k).seq ((ruat rules k).seq.length - 2) = (e : Int)) {v : Value}
    (hc : Chg (fun x => some x = (mv e).ownBlock ∨ x = eb e) w w') (hr : OwnRp C w' v g (mustsTo rules e k ++ [k])) (hv : ∀ b, v.ownBlock = some b → (mv e).ownBlock = some b ∨ w.heap.size ≤ b)
    (hb : BT w' (eb e) (hcell es wb bv (upd mv e v) e) 123) : Hung C es wb eb g rules (k + 1) w' bv (upd mv e v) where
  edge := fun f hf => by
    by_cases q : f = e
    · subst q; exact hb
    · have h1 := h.edge f hf
      have : hcell es wb bv (upd mv e v) f = hcell es wb bv mv f := by unfold hcell; rw [upd_ne _ _ q]
      rw [this]
      refine h1.chg hc (fun x => ?_)
      rcases x with x | x
      · exact h1.neRow (h.musts e he) (by decide) x
      · exact q (h.inj hf he x)
  bans := fun f hf => by
    rw [bansTo_not (Or.inl ho)]
    refine row_chg (h.bans f hf) hc (fun b hb x => ?_)
    rcases x with x | x
    · exact h.apX f e b hf he hb x.symm
    · subst x; exact (h.edge e he).neRow (h.bans f hf) (by decide) hb.symm
  musts := fun f hf => by
    by_cases q : f = e
    · subst q
      rw [upd_at, mustsTo_succ, if_pos ⟨ho, hl⟩]
      exact hr
    · rw [upd_ne _ _ q, mustsTo_not (Or.inr (by rw [hl]; omega))]
      refine row_chg (h.musts f hf) hc (fun b hb x => ?_)
      rcases x with x | x
      · exact h.apM f e b hf he q hb x.symm
      · subst x; exact (h.edge e he).neRow (h.musts f hf) (by decide) hb.symm
  apB := h.apB
  apM := fun f f' b hf hf' hn h1 h2 => by
    by_cases q : f = e
    · subst q
      rw [upd_at] at h1
      rw [upd_ne _ _ (fun x => hn x.symm)] at h2
      rcases hv b h1 with x | x
      · exact h.apM f f' b hf hf' hn x h2
      · have := rowB_lt (h.musts f' hf') h2; omega
    · rw [upd_ne _ _ q] at h1
      by_cases q' : f' = e
      · subst q'
        rw [upd_at] at h2
        rcases hv b h2 with x | x
        · exact h.apM f f' b hf hf' hn h1 x
        · have := rowB_lt (h.musts f hf) h1; omega
      · rw [upd_ne _ _ q'] at h2
        exact h.apM f f' b hf hf' hn h1 h2
  apX := fun f f' b hf hf' h1 h2 => by
    by_cases q : f' = e
    · subst q
      rw [upd_at] at h2
      rcases hv b h2 with x | x
      · exact h.apX f f' b hf hf' h1 x
      · have := rowB_lt (h.bans f hf) h1; omega
    · rw [upd_ne _ _ q] at h2
      exact h.apX f f' b hf hf' h1 h2
end
end Go.Proofs.YtcdjmpbdaiafgaaGreatDoor
namespace Go.Proofs.YtcdjmpbdaiafgaaGreatDoor
open Go.RowKit Go.Sort
set_option linter.unusedVariables false
set_option maxRecDepth 100000

/-- what turns when rules are hung -/
def Sed (es : List Eg) (eb : Nat → Nat) (x : Nat) : Prop := ∃ e, e < es.length ∧ x = eb e
theorem OwnR.chgT {S : Nat → Prop} {C D : Nat} {w w' : World} {v : Value} {xs : List Ru} (h : OwnR C D w v xs) (k : Chg S w w') (hn : ∀ b, S b → ∃ cs t, BT w b cs t ∧ t ≠ 100 ∧ t ≠ 2) : OwnR C D w' v xs := by
  obtain ⟨vs, h1, h2, h3⟩ := h
  refine ⟨vs, h1, row_chg h2 k (fun g hg hs => ?_), fun i hi => row_chg (h3 i hi) k (fun g hg hs => ?_)⟩
  · obtain ⟨cs, t, hb, e1, e2⟩ := hn g hs
    exact hb.neRow h2 e1 hg.symm
  · obtain ⟨cs, t, hb, e1, e2⟩ := hn g hs
    exact hb.neRow (h3 i hi) e2 hg.symm
theorem rowB_ge {C t sz n : Nat} {w : World} {v : Value} {xs : List Value} (h : w.ownsRow C t sz v n xs) {g : Nat} (hg : v.ownBlock = some g) : C ≤ g := by
  rcases h.2 with ⟨rfl, _⟩ | ⟨b, cap, cur, rfl, hb, _⟩
  · cases hg
  · have e : b = g := by simpa [Value.ownBlock] using hg
    subst e
    exact hb
set_option maxHeartbeats 8000000 in
theorem post_any (C D E : Nat) (es : List Eg) (wb eb : Nat → Nat) (br g n c : Nat) (rules : List Ru) (ve : Value) (w : World) (hbr : ∃ cs, BT w br cs 115 ∧ cs[5]? = some ve) (hE : OwnPt E w ve ((List.range es.length).map eb)) (hR : OwnR C D w (.slice (some ⟨g, 0, none⟩) n c) rules)
    (hed : ∀ e, e < es.length → BT w (eb e) (ecell es wb e) 123) (hne : es.length ≤ 4000) (hnr : rules.length ≤ 1000) (hs : ∀ j, j < rules.length → 2 ≤ (ruat rules j).seq.length ∧ ∀ i, i < (ruat rules j).seq.length → ∃ e : Nat, e < es.length ∧ iat (ruat rules j).seq i = e) :
    Calls Tryz.prog 47 #[.pointer (some ⟨br, 0, none⟩), .slice (some ⟨g, 0, none⟩) n c] w fun r w' => (∃ v, r = .returned v) ∧ (∃ bv mv, Hung w.heap.size es wb eb g rules rules.length w' bv mv) ∧ Chg (Sed es eb) w w' := by
  obtain ⟨ip, hip, hp0, hp1, hp2⟩ := info_parts infoPtrR
  have HR : Hid (OwnR C D w (.slice (some ⟨g, 0, none⟩) n c) rules) := hR
  have HEP : Hid (OwnPt E w ve ((List.range es.length).map eb)) := hE
  have HED : Hid (∀ e, e < es.length → BT w (eb e) (ecell es wb e) 123) := hed
  have HSQ : Hid (∀ j, j < rules.length → 2 ≤ (ruat rules j).seq.length ∧ ∀ i, i < (ruat rules j).seq.length → ∃ e : Nat, e < es.length ∧ iat (ruat rules j).seq i = e) := hs
  have HBR : Hid (∃ cs, BT w br cs 115 ∧ cs[5]? = some ve) := hbr
  obtain ⟨vs0, jv, jr, jw⟩ := hR
  obtain ⟨ar, cr, hvr⟩ := row_slice jr
  have hn : n = rules.length := by
    simp only [Value.slice.injEq] at hvr
    exact hvr.2.1
  obtain ⟨ea, ec, hve⟩ := row_slice hE
  simp only [List.length_map, List.length_range] at hve
  generalize hml : es.length = ml at hve hne
  generalize hrl : rules.length = rl at hn hnr
  have HML : Hid (es.length = ml) := hml
  have HRL : Hid (rules.length = rl) := hrl
  subst hve hn
  clear jv jr jw hvr hE hed hs hbr hml hrl vs0
  have HTY : Hid (∀ b, Sed es eb b → ∃ cs t, BT w b cs t ∧ t ≠ 100 ∧ t ≠ 2) := by
    rintro b ⟨e, he, rfl⟩
    exact ⟨_, _, HED.out e he, by decide, by decide⟩
  go_enter Tryz.func47, Tryz.ntmps47
  go_wp2
  go_loopw [4, 5, 6, 7, 8, 11] (fun p4 p5 p6 p7 p8 i wr => ∃ k : Nat, k ≤ n ∧ i = .int .i64 k ∧ Hid (∃ bv mv, Hung w.heap.size es wb eb g rules k wr bv mv) ∧ Hid (Chg (Sed es eb) w wr)) (fun _ _ _ _ _ i _ => n - (intOf i).toNat)
  case atStart => exact ⟨0, Nat.zero_le _, rfl, ⟨_, _, Hung.start HED.out⟩, Chg.nx (Nx.refl _)⟩
  obtain ⟨k, hk, rfl, HU, HC⟩ := hrel
  by_cases hlt : k < n
  · have hlt' : (k : Int) < n := by omega
    have HRr : Hid (OwnR C D wr (.slice (some ⟨g, 0, none⟩) n c) rules) := HR.out.chgT HC.out HTY.out
    obtain ⟨g', u, eg, _, c1, c2, hu⟩ := HRr.out.at (i := k) (by rw [HRL.out]; exact hlt)
    simp only [Option.some.injEq, Addr.mk.injEq] at eg
    obtain ⟨rfl, _⟩ := eg
    obtain ⟨h2, hse⟩ := HSQ.out k (by rw [HRL.out]; exact hlt)
    obtain ⟨qa, qc, rfl, hm, hkq⟩ := hu.held
    obtain ⟨qb, qo, rfl, _, _, cq⟩ := hkq (by omega)
    unfold maxLen at hm
    generalize hsl : (ruat rules k).seq.length = m at *
    have e1 := cq (m - 1) (by omega)
    have e2 := cq (m - 2) (by omega)
    generalize hO : (ruat rules k).only = o at *
    have HO : Hid ((ruat rules k).only = o) := hO
    have HM : Hid ((ruat rules k).seq.length = m) := hsl
    clear hu hkq cq hO hsl
    have k3 : (m : Int) - 1 = ((m - 1 : Nat) : Int) := by omega
    have x5 : wr.cell? ⟨br, 5, none⟩ = some (.slice ea ml ec) := by
      obtain ⟨cs, hb, h5⟩ := HBR.out
      have hb' := hb.chg HC.out (by
        rintro ⟨e, he, rfl⟩
        have h1 := hb.symm.trans (HED.out e he)
        simp at h1)
      exact hb'.blk.cell h5
    have HEPr : Hid (OwnPt E wr (.slice ea ml ec) ((List.range es.length).map eb)) := row_chg HEP.out HC.out (fun g hg hS => by
      obtain ⟨e, he, rfl⟩ := hS
      exact (HED.out e he).neRow HEP.out (by decide) hg.symm)
    obtain ⟨pa, pc, ep, _, kp⟩ := HEPr.out.held
    simp only [List.length_map, List.length_range, Value.slice.injEq] at kp ep
    obtain ⟨rfl, _, rfl⟩ := ep
    have k4 : ((m - 1 : Nat) : Int) - 1 = ((m - 2 : Nat) : Int) := by omega
    have k5 : ((m - 1 : Nat) : Int) < m := by omega
    have k6 : ((m - 2 : Nat) : Int) < m := by omega
    cases o with
    | true =>
      obtain ⟨e, he, hee⟩ := hse (m - 2) (by omega)
      obtain ⟨pb, po, rfl, _, _, cp⟩ := kp (by omega)
      have x6 : wr.cell? ⟨pb, po + e, none⟩ = some (.pointer (some ⟨eb e, 0, none⟩)) := by
        have h := cp e he
        have h2 : ((List.range es.length).map eb).getD e 0 = eb e := by simp [List.getD, he]
        rw [← h2]
        exact h
      have e2' : wr.cell? ⟨qb, qo + (m - 2), none⟩ = some (.int .i64 (e : Int)) := by rw [← hee]; exact e2
      clear kp cp e1 e2
      have he' : (e : Int) < ml := by have := HML.out; omega
      go_upto_region 6 with fail
      go_quiet (fail)
      have HDQ : Hid (Nx wr (wr.drewN nq)) := nx_drewN _ _
      generalize wr.drewN nq = wq at *
      clear x5 x6 e2' c1 c2
      obtain ⟨bv, mv, hh⟩ := HU.out
      have HH : Hid (Hung w.heap.size es wb eb g rules k wq bv mv) := hh.next HDQ.out
      have HCQ : Hid (Chg (Sed es eb) w wq) := HC.out.trans (Chg.nx HDQ.out)
      clear hh
      have HHE : Hid (BT wq (eb e) (hcell es wb bv mv e) 123) := HH.out.edge e he
      have HHR : Hid (OwnRp w.heap.size wq (mv e) g (mustsTo rules e k)) := HH.out.musts e he
      have HOL : Hid ((mustsTo rules e k).length ≤ 1000) := by unfold Hid mustsTo; have := List.length_filter_le (fun j => (ruat rules j).only && decide (iat (ruat rules j).seq ((ruat rules j).seq.length - 2) = (e : Int))) (List.range k); rw [List.length_range] at this; omega
      obtain ⟨va, vc, hvi⟩ := row_slice HHR.out
      have HVI : Hid (mv e = .slice va (mustsTo rules e k).length vc) := hvi
      have HOW : Hid (wq.ownsRow w.heap.size 142 1 (.slice va (mustsTo rules e k).length vc) (mustsTo rules e k).length (prc g (mustsTo rules e k))) := by unfold Hid; rw [← hvi]; exact HHR.out
      generalize hvn : (mustsTo rules e k).length = vn at *
      have HVN : Hid ((mustsTo rules e k).length = vn) := hvn
      have hvn4 : vn ≤ 1000 := HOL.out
      have t1 : wq.cell? ⟨eb e, 10, none⟩ = some (.slice va vn vc) := by rw [← hvi]; exact HHE.out.blk.cell (i := 10) rfl
      have hwz : w.heap.size ≤ wq.heap.size := HCQ.out.size
      clear hvi hvn
      go_wp2_with (at_builtin; refine wpList_append_own_at _ rfl _ _ 121 rfl w.heap.size 142 ip (.pointer none) 1 8 Tryz.underlying121 hip hp0 hp1 hp2 rfl (by decide) _ _ _ rfl (World.ownsRow.alloc HOW.out _) ⟨wq.heap.size, 0, none⟩ 1 1 [.pointer (some ⟨g, k * 3, none⟩)] rfl rfl (fun j u hj => new_cells wq _ _ _ rfl j u hj) ?f2 ?f3 ?f4 ?f5 ?_)
      case f2 => first | rfl | (intro u hu; simp at hu; subst hu; rfl)
      case f3 => unfold maxLen; omega
      case f4 => omega
      case f5 => first | omega | (rw [size_alloc']; omega)
      intro v7 w11 hown hgrow _ hat
      have HG11 : Hid (wq.grownBy w11 (mv e).ownBlock) := by unfold Hid; rw [HVI.out]; exact (World.grownBy_alloc wq _ _).trans hgrow
      have HV11 : Hid (∀ b, v7.ownBlock = some b → (mv e).ownBlock = some b ∨ wq.heap.size ≤ b) := fun b hb => by
        rcases hat with h | h
        · exact Or.inl (by rw [HVI.out, ← h]; exact hb)
        · rw [h] at hb
          have h2 := Option.some.inj hb
          exact Or.inr (by first | omega | (rw [size_alloc'] at h2; omega))
      have HO11 : Hid (OwnRp w.heap.size w11 v7 g (mustsTo rules e k ++ [k])) := by
        unfold Hid
        refine OwnRp.snoc ?_
        rw [HVN.out]
        exact hown
      have HWB11 : Hid (BT w11 (eb e) (hcell es wb bv mv e) 123) := HHE.out.chg (Chg.grown HG11.out (S := fun x => some x = (mv e).ownBlock) (fun b e => e)) (HHE.out.neRow HHR.out (by decide))
      obtain ⟨a7, c7, hv7⟩ := row_slice hown
      subst hv7
      clear hown hgrow hat t1
      have t2 := HWB11.out.blk.cell (i := 10) rfl
      have f2 := HWB11.out.blk.frozen 10
      go_wp2
      generalize hW12 : w11.setCell ⟨eb e, 10, none⟩ (.slice a7 (vn + 1) c7) = w12
      have HCH : Hid (Chg (fun x => some x = (mv e).ownBlock ∨ x = eb e) wq w12) := by unfold Hid; rw [← hW12]; exact (Chg.grown HG11.out (fun b e => Or.inl e)).trans (Chg.set _ _ _ (Or.inr rfl))
      have HB12 : Hid (BT w12 (eb e) (hcell es wb bv (upd mv e (.slice a7 (vn + 1) c7)) e) 123) := by
        unfold Hid
        rw [← hW12]
        have h := HWB11.out.set 10 (.slice a7 (vn + 1) c7)
        unfold hcell at h ⊢
        rw [upd_at]
        exact h
      have HO12 : Hid (OwnRp w.heap.size w12 (.slice a7 (vn + 1) c7) g (mustsTo rules e k ++ [k])) := by
        unfold Hid
        rw [← hW12]
        exact row_chg HO11.out (Chg.set (S := fun x => x = eb e) _ _ _ rfl) (fun b hb x => by subst x; exact HWB11.out.neRow HO11.out (by decide) hb.symm)
      have HNXT : Hid (Hung w.heap.size es wb eb g rules (k + 1) w12 bv (upd mv e (.slice a7 (vn + 1) c7))) := HH.out.must he HO.out (by rw [HM.out]; exact hee) HCH.out HO12.out HV11.out HB12.out
      have HC12 : Hid (Chg (Sed es eb) w w12) := HCQ.out.young HCH.out (fun x hx hl => by
        rcases hx with hx | hx
        · have := rowB_ge HHR.out hx.symm; omega
        · exact ⟨e, he, hx⟩)
      exact ⟨⟨k + 1, by omega, by go_num, ⟨_, _, HNXT.out⟩, HC12⟩, by simp [intOf]; omega⟩
    | false =>
      obtain ⟨e, he, hee⟩ := hse (m - 1) (by omega)
      obtain ⟨pb, po, rfl, _, _, cp⟩ := kp (by omega)
      have x6 : wr.cell? ⟨pb, po + e, none⟩ = some (.pointer (some ⟨eb e, 0, none⟩)) := by
        have h := cp e he
        have h2 : ((List.range es.length).map eb).getD e 0 = eb e := by simp [List.getD, he]
        rw [← h2]
        exact h
      have e2' : wr.cell? ⟨qb, qo + (m - 1), none⟩ = some (.int .i64 (e : Int)) := by rw [← hee]; exact e1
      clear kp cp e1 e2
      have he' : (e : Int) < ml := by have := HML.out; omega
      go_upto_region 8 with fail
      go_quiet (fail)
      have HDQ : Hid (Nx wr (wr.drewN nq)) := nx_drewN _ _
      generalize wr.drewN nq = wq at *
      clear x5 x6 e2' c1 c2
      obtain ⟨bv, mv, hh⟩ := HU.out
      have HH : Hid (Hung w.heap.size es wb eb g rules k wq bv mv) := hh.next HDQ.out
      have HCQ : Hid (Chg (Sed es eb) w wq) := HC.out.trans (Chg.nx HDQ.out)
      clear hh
      have HHE : Hid (BT wq (eb e) (hcell es wb bv mv e) 123) := HH.out.edge e he
      have HHR : Hid (OwnRp w.heap.size wq (bv e) g (bansTo rules e k)) := HH.out.bans e he
      have HOL : Hid ((bansTo rules e k).length ≤ 1000) := by unfold Hid bansTo; have := List.length_filter_le (fun j => !(ruat rules j).only && decide (iat (ruat rules j).seq ((ruat rules j).seq.length - 1) = (e : Int))) (List.range k); rw [List.length_range] at this; omega
      obtain ⟨va, vc, hvi⟩ := row_slice HHR.out
      have HVI : Hid (bv e = .slice va (bansTo rules e k).length vc) := hvi
      have HOW : Hid (wq.ownsRow w.heap.size 142 1 (.slice va (bansTo rules e k).length vc) (bansTo rules e k).length (prc g (bansTo rules e k))) := by unfold Hid; rw [← hvi]; exact HHR.out
      generalize hvn : (bansTo rules e k).length = vn at *
      have HVN : Hid ((bansTo rules e k).length = vn) := hvn
      have hvn4 : vn ≤ 1000 := HOL.out
      have t1 : wq.cell? ⟨eb e, 9, none⟩ = some (.slice va vn vc) := by rw [← hvi]; exact HHE.out.blk.cell (i := 9) rfl
      have hwz : w.heap.size ≤ wq.heap.size := HCQ.out.size
      clear hvi hvn
      go_wp2_with (at_builtin; refine wpList_append_own_at _ rfl _ _ 121 rfl w.heap.size 142 ip (.pointer none) 1 8 Tryz.underlying121 hip hp0 hp1 hp2 rfl (by decide) _ _ _ rfl (World.ownsRow.alloc HOW.out _) ⟨wq.heap.size, 0, none⟩ 1 1 [.pointer (some ⟨g, k * 3, none⟩)] rfl rfl (fun j u hj => new_cells wq _ _ _ rfl j u hj) ?f2 ?f3 ?f4 ?f5 ?_)
      case f2 => first | rfl | (intro u hu; simp at hu; subst hu; rfl)
      case f3 => unfold maxLen; omega
      case f4 => omega
      case f5 => first | omega | (rw [size_alloc']; omega)
      intro v7 w11 hown hgrow _ hat
      have HG11 : Hid (wq.grownBy w11 (bv e).ownBlock) := by unfold Hid; rw [HVI.out]; exact (World.grownBy_alloc wq _ _).trans hgrow
      have HV11 : Hid (∀ b, v7.ownBlock = some b → (bv e).ownBlock = some b ∨ wq.heap.size ≤ b) := fun b hb => by
        rcases hat with h | h
        · exact Or.inl (by rw [HVI.out, ← h]; exact hb)
        · rw [h] at hb
          have h2 := Option.some.inj hb
          exact Or.inr (by first | omega | (rw [size_alloc'] at h2; omega))
      have HO11 : Hid (OwnRp w.heap.size w11 v7 g (bansTo rules e k ++ [k])) := by
        unfold Hid
        refine OwnRp.snoc ?_
        rw [HVN.out]
        exact hown
      have HWB11 : Hid (BT w11 (eb e) (hcell es wb bv mv e) 123) := HHE.out.chg (Chg.grown HG11.out (S := fun x => some x = (bv e).ownBlock) (fun b e => e)) (HHE.out.neRow HHR.out (by decide))
      obtain ⟨a7, c7, hv7⟩ := row_slice hown
      subst hv7
      clear hown hgrow hat t1
      have t2 := HWB11.out.blk.cell (i := 9) rfl
      have f2 := HWB11.out.blk.frozen 9
      go_wp2
      generalize hW12 : w11.setCell ⟨eb e, 9, none⟩ (.slice a7 (vn + 1) c7) = w12
      have HCH : Hid (Chg (fun x => some x = (bv e).ownBlock ∨ x = eb e) wq w12) := by unfold Hid; rw [← hW12]; exact (Chg.grown HG11.out (fun b e => Or.inl e)).trans (Chg.set _ _ _ (Or.inr rfl))
      have HB12 : Hid (BT w12 (eb e) (hcell es wb (upd bv e (.slice a7 (vn + 1) c7)) mv e) 123) := by
        unfold Hid
        rw [← hW12]
        have h := HWB11.out.set 9 (.slice a7 (vn + 1) c7)
        unfold hcell at h ⊢
        rw [upd_at]
        exact h
      have HO12 : Hid (OwnRp w.heap.size w12 (.slice a7 (vn + 1) c7) g (bansTo rules e k ++ [k])) := by
        unfold Hid
        rw [← hW12]
        exact row_chg HO11.out (Chg.set (S := fun x => x = eb e) _ _ _ rfl) (fun b hb x => by subst x; exact HWB11.out.neRow HO11.out (by decide) hb.symm)
      have HNXT : Hid (Hung w.heap.size es wb eb g rules (k + 1) w12 (upd bv e (.slice a7 (vn + 1) c7)) mv) := HH.out.ban he HO.out (by rw [HM.out]; exact hee) HCH.out HO12.out HV11.out HB12.out
      have HC12 : Hid (Chg (Sed es eb) w w12) := HCQ.out.young HCH.out (fun x hx hl => by
        rcases hx with hx | hx
        · have := rowB_ge HHR.out hx.symm; omega
        · exact ⟨e, he, hx⟩)
      exact ⟨⟨k + 1, by omega, by go_num, ⟨_, _, HNXT.out⟩, HC12⟩, by simp [intOf]; omega⟩
  have hkn : n = k := by omega
  subst hkn
  go_wp2
  refine bodyPost_end (results_none rfl _ _ _) rfl ?_
  exact ⟨⟨_, rfl⟩, HU.out, HC.out⟩
end Go.Proofs.YtcdjmpbdaiafgaaGreatDoor
namespace Go.Proofs.YtcdjmpbdaiafgaaGreatDoor
open Go.RowKit Go.Sort
set_option linter.unusedVariables false
set_option maxRecDepth 100000

-- what judge reads
/-- pointers to rules, in memory -/
def HPr (w : World) (v : Value) (g : Nat) (ps : List Nat) : Prop := HSlice 0 w v ps.length fun b off i => w.cell? ⟨b, off + i, none⟩ = some (.pointer (some ⟨g, ps.getD i 0 * 3, none⟩))
theorem HPr.next {w w' : World} {v : Value} {g : Nat} {ps : List Nat} (h : HPr w v g ps) (k : Nx w w') : HPr w' v g ps :=
  HSlice.mono h (Nat.le_refl _) k.size fun b off hb hs i hi hc => cellq k hc
structure JP (N : Nt) (es : List Eg) (rules : List Ru) (walk : List Int) (wb eb : Nat → Nat) (bv mv : Nat → Value) (g br : Nat) (v3 ve vw : Value) (w : World) : Prop where
  r3 : w.cell? ⟨br, 3, none⟩ = some v3
  r4 : w.cell? ⟨br, 4, none⟩ = some (.int .i64 N.uturn)
  r5 : w.cell? ⟨br, 5, none⟩ = some ve
  turns : HTurns 0 w v3 N.turns
  edges : HSlice 0 w ve es.length fun b off i => w.cell? ⟨b, off + i, none⟩ = some (.pointer (some ⟨eb i, 0, none⟩))
  edge : ∀ e, e < es.length → ∀ (i : Nat) (v : Value), (hcell es wb bv mv e)[i]? = some v → w.cell? ⟨eb e, i, none⟩ = some v
  way : ∀ e, e < es.length → w.cell? ⟨wb (eat es e).way.toNat, 0, none⟩ = some (.int .i64 (wayId N es e))
  bans : ∀ e : Nat, e < es.length → HPr w (bv e) g (bansTo rules e rules.length)
  musts : ∀ e : Nat, e < es.length → HPr w (mv e) g (mustsTo rules e rules.length)
  rule : ∀ j, j < rules.length → ∃ u, w.cell? ⟨g, j * 3 + 2, none⟩ = some u ∧ HInts 0 w u (ruat rules j).seq ∧ CapOk u
  wlk : HInts 0 w vw walk
theorem JP.next {N : Nt} {es : List Eg} {rules : List Ru} {walk : List Int} {wb eb : Nat → Nat} {bv mv : Nat → Value} {g br : Nat} {v3 ve vw : Value} {w w' : World} (h : JP N es rules walk wb eb bv mv g br v3 ve vw w) (k : Nx w w') : JP N es rules walk wb eb bv mv g br v3 ve vw w' where
  r3 := cellq k h.r3
  r4 := cellq k h.r4
  r5 := cellq k h.r5
  turns := HTurns.keep h.turns (k.keeps 0)
  edges := HSlice.mono h.edges (Nat.le_refl _) k.size fun b off hb hs i hi hc => cellq k hc
  edge := fun e he i v hv => cellq k (h.edge e he i v hv)
  way := fun e he => cellq k (h.way e he)
  bans := fun e he => (h.bans e he).next k
  musts := fun e he => (h.musts e he).next k
  rule := fun j hj => by
    obtain ⟨u, h1, h2, h3⟩ := h.rule j hj
    exact ⟨u, cellq k h1, h2.next k, h3⟩
  wlk := h.wlk.next k
theorem bansTo_lt {rules : List Ru} {e : Int} {k i : Nat} (hi : i < (bansTo rules e k).length) : (bansTo rules e k).getD i 0 < k := by
  have h : (bansTo rules e k)[i] ∈ bansTo rules e k := List.getElem_mem hi
  have h2 := List.mem_range.1 (List.mem_filter.1 h).1
  simpa [List.getD_eq_getElem?_getD, hi] using h2
theorem mustsTo_lt {rules : List Ru} {e : Int} {k i : Nat} (hi : i < (mustsTo rules e k).length) : (mustsTo rules e k).getD i 0 < k := by
  have h : (mustsTo rules e k)[i] ∈ mustsTo rules e k := List.getElem_mem hi
  have h2 := List.mem_range.1 (List.mem_filter.1 h).1
  simpa [List.getD_eq_getElem?_getD, hi] using h2
theorem getD_any {l : List Nat} {p : Nat → Bool} {i : Nat} (hi : i < l.length) (h : p (l.getD i 0) = true) : l.any p = true := by
  rw [List.any_eq_true]
  refine ⟨l[i], List.getElem_mem hi, ?_⟩
  simpa [List.getD_eq_getElem?_getD, hi] using h
theorem getD_none {l : List Nat} {p : Nat → Bool} (h : ∀ i, i < l.length → p (l.getD i 0) = false) : l.any p = false := by
  rw [List.any_eq_false]
  intro x hx
  obtain ⟨i, hi, rfl⟩ := List.getElem_of_mem hx
  have := h i hi
  simp only [List.getD_eq_getElem?_getD, List.getElem?_eq_getElem hi, Option.getD_some] at this
  simp [this]
/-- the musts that hang on the edge before edge i of a walk -/
def mustsAt (rules : List Ru) (walk : List Int) (i : Nat) : List Nat := if i = 0 then [] else mustsTo rules (iat walk (i - 1)) rules.length
def mustQ (rules : List Ru) (walk : List Int) (i j : Nat) : Bool := ewB (walk.take i) ((ruat rules j).seq.take ((ruat rules j).seq.length - 1)) && (iat (ruat rules j).seq ((ruat rules j).seq.length - 1) != iat walk i)
theorem musts_at {rules : List Ru} {walk : List Int} {i : Nat} (hs : ∀ j, j < rules.length → 2 ≤ (ruat rules j).seq.length) (hi : i < walk.length) : rules.any (mustB walk i) = (mustsAt rules walk i).any (mustQ rules walk i) := by
  rw [musts_asked hs hi]
  unfold mustsAt
  by_cases h : i = 0
  · subst h; simp
  · rw [if_neg h, decide_eq_true (by omega), Bool.true_and]
    rfl
theorem mustsAt_lt {rules : List Ru} {walk : List Int} {n i : Nat} (hi : i < (mustsAt rules walk n).length) : (mustsAt rules walk n).getD i 0 < rules.length := by
  unfold mustsAt at hi ⊢
  by_cases h : n = 0
  · rw [if_pos h] at hi; simp at hi
  · rw [if_neg h] at hi ⊢
    exact mustsTo_lt hi
/-- the verdict of judge -/
def judgeP (N : Nt) (es : List Eg) (rules : List Ru) (walk : List Int) : Vd := if walk.length = 0 ∨ 10000 < walk.length then ⟨2, 0, 0⟩ else jdg N es rules walk walk.length 0
end Go.Proofs.YtcdjmpbdaiafgaaGreatDoor
