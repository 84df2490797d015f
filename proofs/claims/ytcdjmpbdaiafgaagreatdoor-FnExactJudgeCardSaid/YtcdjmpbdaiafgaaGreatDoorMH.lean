import Derived.Test.YtcdjmpbdaiafgaaGreatDoorMD
namespace Go.Proofs.YtcdjmpbdaiafgaaGreatDoor
open Go.RowKit Go.Sort Go.Maps Go.Shelf
set_option linter.unusedVariables false
set_option maxRecDepth 100000

set_option maxHeartbeats 16000000 in
theorem resolve_any (C : Nat) (N : Nt) (L : Lk) (w : World) (hv : implValid N = true) (hR : LR C N (E1 N) N.ways.length (E1 N).length (E1 N).length (E1 N).length N.ways.length w L) (h0 : HInts 0 w L.v0 N.nodes) (h2 : HRelsC w L.v2 N.rels) (ht : TabW w) :
    Calls Tryz.prog 31 #[.pointer (some ⟨L.br, 0, none⟩)] w fun e w' => (∃ vr vd, e = .returned (.agg #[vr, vd]) ∧ OwnX w.heap.size w' vr (resTo (chP N) N.rels N.rels.length).rules ∧ OwnD w.heap.size w' vd (resTo (chP N) N.rels N.rels.length).drops) ∧ Nx w w' := by
  obtain ⟨iR, hiR, hzR0, hzR1, hzR2⟩ := info_parts infoRule
  obtain ⟨iD, hiD, hzD0, hzD1, hzD2⟩ := info_parts infoDrop
  have HV : Hid (implValid N = true) := hv
  have HR : Hid (LR C N (E1 N) N.ways.length (E1 N).length (E1 N).length (E1 N).length N.ways.length w L) := hR
  have H0 : Hid (HInts 0 w L.v0 N.nodes) := h0
  have H2 : Hid (HRelsC w L.v2 N.rels) := h2
  have HT : Hid (TabW w) := ht
  have hmx : Tryz.prog.follows .mixedOrders = true := by kernel_rfl
  obtain ⟨a2, c2, he2, hm2, _⟩ := h2
  unfold maxLen at hm2
  generalize hnr : N.rels.length = nr at *
  have HNR : Hid (N.rels.length = nr) := hnr
  have HE2 : Hid (L.v2 = .slice a2 nr c2) := he2
  have hrb : nr ≤ 1000 := by rw [← hnr]; exact (rels_in hv).cnt
  have x2 : w.cell? ⟨L.br, 2, none⟩ = some (.slice a2 nr c2) := by rw [← he2]; exact hR.road.blk.cell (i := 2) rfl
  have y2 := cellq ((box1 w (.cells #[.slice none 0 0, .slice none 0 0] 32)).trans (box1 _ (.cells #[.slice none 0 0, .slice none 0 0] 32))) x2
  have z2 := cellq (box1 _ (.map #[] 0)) y2
  have hmk : ∀ W : World, (Instr.makeMap 124 (some (.int .i64 (nr : Int)))).run Tryz.prog W = .ok (.map (some W.heap.size)) (W.alloc (.map #[] 0)) := fun W => mkRn W nr
  clear hv hR h0 ht hnr he2 hm2
  go_enter Tryz.func31, Tryz.ntmps31
  go_wp2_with fail
  generalize hW0 : ((w.alloc (.cells #[.slice none 0 0, .slice none 0 0] 32)).alloc (.cells #[.slice none 0 0, .slice none 0 0] 32)).alloc (.map #[] 0) = w0
  have HX0 : Hid (Nx w w0) := by unfold Hid; rw [← hW0]; exact ((box1 _ _).trans (box1 _ _)).trans (box1 _ _)
  have HB0 : Hid (BT w0 w.heap.size #[.slice none 0 0, .slice none 0 0] 32) := by unfold Hid; rw [← hW0]; exact ((BT.new w _ _ _ rfl).alloc _).alloc _
  have HB1 : Hid (BT w0 (w.heap.size + 1) #[.slice none 0 0, .slice none 0 0] 32) := by unfold Hid; rw [← hW0]; exact (BT.new _ _ _ _ (by simp)).alloc _
  have HMP : Hid (MadeM w0 (w.heap.size + 1 + 1) []) := by unfold Hid; rw [← hW0]; exact MadeM.new _ _ (by simp)
  have HSZ : w0.heap.size = w.heap.size + 3 := by rw [← hW0]; simp
  clear hW0 x2 y2 z2
  generalize hb1 : w.heap.size + 1 = b1 at *
  generalize hbm : b1 + 1 = bm at *
  have HBB : Hid (b1 = w.heap.size + 1 ∧ bm = w.heap.size + 2) := by unfold Hid; omega
  clear hb1 hbm
  have HS0 : Hid (w0.heap.size = w.heap.size + 3) := HSZ
  clear HSZ
  go_loopw [6, 7, 8, 9, 10, 11, 25] (fun p6 p7 p8 p9 p10 p11 i wr => ∃ (k : Nat) (vr vd : Value), k ≤ nr ∧ i = .int .i64 k ∧ Hid (BT wr w.heap.size #[.slice none 0 0, .slice none 0 0] 32) ∧ Hid (BT wr b1 #[vr, vd] 32) ∧ Hid (MadeM wr bm ((resTo (chP N) N.rels k).rules.map rk)) ∧ Hid (OwnX w0.heap.size wr vr (resTo (chP N) N.rels k).rules) ∧ Hid (OwnD w0.heap.size wr vd (resTo (chP N) N.rels k).drops) ∧ Hid (w0.heap.size ≤ wr.heap.size) ∧ Hid (Nx w wr)) (fun _ _ _ _ _ _ i _ => nr - (intOf i).toNat)
  case atStart => exact ⟨0, _, _, Nat.zero_le _, rfl, HB0, HB1, HMP, ⟨[], rfl, ⟨rfl, Or.inl ⟨rfl, rfl⟩⟩, fun i hi => absurd hi (Nat.not_lt_zero _), fun i j g _ hj => absurd hj (Nat.not_lt_zero _)⟩, ⟨rfl, Or.inl ⟨rfl, rfl⟩⟩, Nat.le_refl _, HX0⟩
  case round =>
    clear HB0 HB1 HMP
    obtain ⟨k, vr, vd, hkn, rfl, HB0, HB1, HM, HOX, HOD, HZW0, HN⟩ := hrel
    have hrl := resTo_len (chP N) N.rels k
    obtain ⟨ar, cr, rfl⟩ := HOX.out.slice
    obtain ⟨ad, cd, rfl⟩ := row_slice HOD.out
    generalize hnu : (resTo (chP N) N.rels k).rules.length = nu at *
    generalize hnd : (resTo (chP N) N.rels k).drops.length = nd at *
    have HNU : Hid ((resTo (chP N) N.rels k).rules.length = nu) := hnu
    have HND : Hid ((resTo (chP N) N.rels k).drops.length = nd) := hnd
    clear hnu hnd
    by_cases hlt : k < nr
    · have hlr : k < N.rels.length := by rw [HNR.out]; exact hlt
      have HG : Hid (RelG N (rat N.rels k)) := rel_g ((rels_in HV.out).rel k hlr)
      obtain ⟨a', c', e', _, hk'⟩ := HE2.out ▸ (H2.out.next HN.out)
      obtain ⟨b, off, rfl, _, hb, hcs⟩ := hk' (by omega)
      simp only [Value.slice.injEq] at e'
      obtain ⟨rfl, hzz, rfl⟩ := e'
      obtain ⟨vw, z0, z1, z2, z3, z4, z5, z6, hzw, hcp⟩ := hcs k hlr
      have HZW : Hid (HInts 0 wr vw (rat N.rels k).ways) := hzw
      have HCP : Hid (CapOk vw) := hcp
      obtain ⟨va, vn, vc, rfl, _⟩ := hcp
      have hlt' : (k : Int) < nr := by omega
      clear hcs hk' hzz hzw
      go_upto_region 6 with fail
      generalize hW5 : wr.alloc (.cells #[.int .i64 (rat N.rels k).id, .bool (rat N.rels k).only, .int .i64 (rat N.rels k).frm, .int .i64 (rat N.rels k).to, .bool (rat N.rels k).via, .int .i64 (rat N.rels k).node, .slice va vn vc] 93) = w5
      have HX5 : Hid (Nx wr w5) := by unfold Hid; rw [← hW5]; exact box1 _ _
      have HB5 : Hid (BT w5 wr.heap.size #[.int .i64 (rat N.rels k).id, .bool (rat N.rels k).only, .int .i64 (rat N.rels k).frm, .int .i64 (rat N.rels k).to, .bool (rat N.rels k).via, .int .i64 (rat N.rels k).node, .slice va vn vc] 93) := by unfold Hid; rw [← hW5]; exact BT.new _ _ _ _ rfl
      have HN5 : Hid (Nx w w5) := HN.out.trans HX5.out
      have q0 := HB5.out.blk.cell (i := 0) rfl
      have q1 := HB5.out.blk.cell (i := 1) rfl
      have q2 := HB5.out.blk.cell (i := 2) rfl
      have q3 := HB5.out.blk.cell (i := 3) rfl
      have q4 := HB5.out.blk.cell (i := 4) rfl
      have q5 := HB5.out.blk.cell (i := 5) rfl
      have q6 := HB5.out.blk.cell (i := 6) rfl
      clear hW5 z0 z1 z2 z3 z4 z5 z6
      go_wp2_with (go_at_call 71; refine (chains_any C N L (rat N.rels k) va vn vc _ HV.out (HR.out.next HN5.out) HG.out).mono ?_; rintro e w6 ⟨⟨b2, b3, b5, b6, rfl, hb2, hb3, hb5, hb6⟩, hx6⟩)
      have HN6 : Hid (Nx w w6) := HN5.out.trans hx6
      refine (sole_any 105 _ (chP N (rat N.rels k)) _ w.heap.size (chains_gives (r := (rat N.rels k)) (vw := .slice va vn vc) HV.out HR.out HG.out HCP.out) (fun _ _ => rfl) w6 HN6.out.size (fun B hB => ⟨(Ck.nx HN6.out).trans hB, (H0.out.next HN6.out).ck hB, ((HZW.out.next HX5.out).next hx6).ck hB, hb2.ck hB id, hb3.ck hB id, hb5.ck hB id, hb6.ck hB id⟩)).mono ?_
      rintro e w7 ⟨⟨sv, rfl, hsv⟩, hx7⟩
      have HX67 : Hid (Nx w6 w7) := hx7
      have HX57 : Hid (Nx w5 w7) := hx6.trans hx7
      have HXR7 : Hid (Nx wr w7) := HX5.out.trans HX57.out
      have HN7 : Hid (Nx w w7) := HN6.out.trans hx7
      have HZ6 : Hid (wr.heap.size < w6.heap.size ∧ w0.heap.size ≤ w6.heap.size) := ⟨Nat.lt_of_lt_of_le HB5.out.lt hx6.size, by have := HZW0.out; have := HX5.out.size; have := hx6.size; omega⟩
      -- what comes out of it: a list and a reason
      have HSL : ∃ sl : List Nat, HInts 0 w7 sv (nums sl) ∧ sl.length ≤ 16002 ∧ (∀ e ∈ sl, e < 4000) ∧ (((chP N (rat N.rels k)).length = 1 ∧ sl = lsat (chP N (rat N.rels k)) 0 ∧ OwnI w6.heap.size w7 sv (nums sl)) ∨ (chP N (rat N.rels k)).length ≠ 1) := by
        rcases hsv with ⟨h1, h2⟩ | ⟨h1, rfl⟩
        · have ho := chP_ok HV.out HG.out _ (lsat_one h1)
          exact ⟨lsat (chP N (rat N.rels k)) 0, (OwnI.base h2 (Nat.zero_le _)).held, ho.1, ho.2, Or.inl ⟨h1, rfl, h2⟩⟩
        · exact ⟨[], ⟨none, 0, rfl, by simp [nums], fun hp => by simp [nums] at hp⟩, by simp, fun e he => by simp at he, Or.inr h1⟩
      obtain ⟨sl, hsi, hsl, hse, hcase⟩ := HSL
      have HSI : Hid (HInts 0 w7 sv (nums sl)) := hsi
      have HSM : Hid (sl.length ≤ 16002 ∧ ∀ e ∈ sl, e < 4000) := ⟨hsl, hse⟩
      have HCASE : Hid (((chP N (rat N.rels k)).length = 1 ∧ sl = lsat (chP N (rat N.rels k)) 0 ∧ OwnI w6.heap.size w7 sv (nums sl)) ∨ (chP N (rat N.rels k)).length ≠ 1) := hcase
      obtain ⟨sa, sc, rfl, _, _⟩ := hsi
      generalize hsn : (nums sl).length = sn at *
      generalize hso : soleOf (chP N (rat N.rels k)) = so at *
      have HSO : Hid (soleOf (chP N (rat N.rels k)) = so) := hso
      clear hsv hsl hse hcase hsn hso hx6 hx7 hb2 hb3 hb5 hb6 q0 q1 q2 q3 q4 q5 q6
      go_upto_region 7 with fail
      have HB7 : Hid (BT w7 wr.heap.size #[.int .i64 (rat N.rels k).id, .bool (rat N.rels k).only, .int .i64 (rat N.rels k).frm, .int .i64 (rat N.rels k).to, .bool (rat N.rels k).via, .int .i64 (rat N.rels k).node, .slice va vn vc] 93) := HB5.out.next HX57.out
      go_cut [9, 25] from 25 to 79 (fun s9 s25 wc => ∃ gb, s9 = .pointer (some ⟨gb, 0, none⟩) ∧ s25 = .int .i64 k ∧ Hid (w7.heap.size ≤ gb) ∧ Hid (Nx w7 wc) ∧ Hid (BT wc gb #[.bool (rat N.rels k).only, .string ⟨(txt sl).toArray⟩] 133))
      case first =>
        have HSN : Hid (∀ q, Nx w7 q → (fun q => q.cell? ⟨wr.heap.size, 1, none⟩ = some (.bool (rat N.rels k).only)) q) := fun q hq => cellq hq (HB7.out.blk.cell (i := 1) rfl)
        have HSS : Hid ((fun q => q.cell? ⟨wr.heap.size, 1, none⟩ = some (.bool (rat N.rels k).only)) w7.drew) := HSN.out _ (show Nx w7 w7.drew from (Below.refl _ _).drew)
        refine (wpIn_wide (n := 9)).1 ?_
        refine wpIn_region_S (c := 8) (S := fun q => q.cell? ⟨wr.heap.size, 1, none⟩ = some (.bool (rat N.rels k).only)) hmx (by kernel_rfl) (fun hw hcl => ?_)
        refine anyS_take (i := 0) (v := .pointer (some ⟨wr.heap.size, 1, none⟩)) hw (by decide) hcl (noDefer_none rfl) rfl (by kernel_rfl) (by kernel_rfl) (by kernel_rfl) (fun _ _ _ h => h) ⟨Or.inl ⟨by kernel_rfl, ?y0⟩, fun _ => rfl⟩ HSS.out (fun hcl => ?_)
        case y0 =>
          rintro q c1
          go_simp
        refine anyS_take (i := 1) (v := .bool (rat N.rels k).only) hw (by decide) hcl (noDefer_none rfl) rfl (by kernel_rfl) (by kernel_rfl) (by kernel_rfl) (fun _ _ _ h => h) ⟨Or.inl ⟨by kernel_rfl, ?y1⟩, fun _ => rfl⟩ HSS.out (fun hcl => ?_)
        case y1 =>
          rintro q c1
          go_simp
        refine anyS_take (i := 2) (v := .slice sa sn sc) hw (by decide) hcl (noDefer_none rfl) rfl (by kernel_rfl) (by kernel_rfl) (by kernel_rfl) (fun _ _ _ h => h) ⟨Or.inl ⟨by kernel_rfl, ?y2⟩, fun _ => rfl⟩ HSS.out (fun hcl => ?_)
        case y2 =>
          rintro q c1
          go_simp
        refine anyS_two (i := 3) (j := 6) (by kernel_rfl) (wpOpIn_step rfl (fun K hK => ?_)) (wpOpIn_step rfl (fun K hK => ?_))
        · go_simp
          refine ⟨trivial, (callsIn_wide.2 (appN_any _ (nums sl) _ (HSI.out.next (show Nx w7 w7.drew from (Below.refl _ _).drew)) (by rw [nums_len]; have := HSM.out.1; omega) (small_nums HSM.out.2) ((HT.out.next (HN7.out.trans (show Nx w7 w7.drew from (Below.refl _ _).drew))).tab))).mono ?_⟩
          rintro e wx0 ⟨⟨bv, rfl, hbo⟩, hxb⟩
          have HNX0 : Hid (Nx w7 wx0) := (show Nx w7 w7.drew from (Below.refl _ _).drew).trans hxb
          have HOW : Hid (Own w7.drew.heap.size wx0 bv (txt sl)) := by
            rw [nums_len, numsTo_txt sl sl.length (Nat.le_refl _), List.take_length] at hbo
            exact hbo
          obtain ⟨ba, bc, rfl⟩ := row_slice HOW.out
          generalize hbn : (txt sl).length = bn at *
          clear hbo hxb hbn
          refine hK _ _ ⟨Or.inr (HSN.out _ HNX0.out), ?_⟩
          clear hK K
          refine anyS_two (i := 4) (j := 6) (by kernel_rfl) (wpOpIn_step rfl (fun K hK => ?_)) (wpOpIn_step rfl (fun K hK => ?_))
          · have hcv := HOW.out.conv
            go_simp
            clear hcv
            refine hK _ _ ⟨Or.inr (HSN.out _ HNX0.out), ?_⟩
            clear hK K
            refine anyS_two (i := 5) (j := 6) (by kernel_rfl) (wpOpIn_step rfl (fun K hK => ?_)) (wpOpIn_step rfl (fun K hK => ?_))
            · go_simp
              refine hK _ _ ⟨Or.inr (HSN.out _ HNX0.out), ?_⟩
              clear hK K
              refine anyS_one (i := 6) (by kernel_rfl) (wpOpIn_step rfl (fun K hK => ?_))
              go_simp
              generalize hWx : wx0.alloc (.cells #[.bool false, .string ⟨#[]⟩] 133) = wx1
              have HLX1 : Hid (Nx wx0 wx1) := by unfold Hid; rw [← hWx]; exact box1 _ _
              have HNX1 : Hid (Nx w7 wx1) := HNX0.out.trans HLX1.out
              have HBX : Hid (BT wx1 wx0.heap.size #[.bool false, .string ⟨#[]⟩] 133) := by unfold Hid; rw [← hWx]; exact BT.new wx0 _ _ _ rfl
              have HGE : Hid (w7.heap.size ≤ wx0.heap.size) := HNX0.out.size
              have HOWN := mkHid (Own.next HOW.out HLX1.out)
              clear HOW
              have HOW := HOWN
              clear hWx
              refine hK _ _ ⟨Or.inr (HSN.out _ HNX1.out), ?_⟩
              clear hK K
              refine anyS_one (i := 7) (by kernel_rfl) (wpOpIn_step rfl (fun K hK => ?_))
              have g0 := HBX.out.blk.cell (i := 0) rfl
              have g1 := HBX.out.blk.cell (i := 1) rfl
              have f0 := HBX.out.blk.frozen 0
              have f1 := HBX.out.blk.frozen 1
              go_simp
              have HNXZ : Hid (Nx w7 ((wx1.setCell ⟨wx0.heap.size, 0, none⟩ (.bool (rat N.rels k).only)).setCell ⟨wx0.heap.size, 1, none⟩ (.string ⟨(txt sl).toArray⟩))) := Below.setCell (Below.setCell HNX1.out HGE.out _) HGE.out _
              refine hK _ _ ⟨Or.inr (HSN.out _ HNXZ.out), ?_⟩
              clear hK K
              refine anyS_done (by kernel_rfl) ?_ _
              go_wp2
              go_meet
              exact ⟨_, rfl, rfl, HGE, HNXZ, (HBX.out.set 0 _).set 1 _⟩
            · go_simp
              generalize hWx : wx0.alloc (.cells #[.bool false, .string ⟨#[]⟩] 133) = wx1
              have HLX1 : Hid (Nx wx0 wx1) := by unfold Hid; rw [← hWx]; exact box1 _ _
              have HNX1 : Hid (Nx w7 wx1) := HNX0.out.trans HLX1.out
              have HBX : Hid (BT wx1 wx0.heap.size #[.bool false, .string ⟨#[]⟩] 133) := by unfold Hid; rw [← hWx]; exact BT.new wx0 _ _ _ rfl
              have HGE : Hid (w7.heap.size ≤ wx0.heap.size) := HNX0.out.size
              have HOWN := mkHid (Own.next HOW.out HLX1.out)
              clear HOW
              have HOW := HOWN
              clear hWx
              refine hK _ _ ⟨Or.inr (HSN.out _ HNX1.out), ?_⟩
              clear hK K
              refine anyS_one (i := 5) (by kernel_rfl) (wpOpIn_step rfl (fun K hK => ?_))
              go_simp
              refine hK _ _ ⟨Or.inr (HSN.out _ HNX1.out), ?_⟩
              clear hK K
              refine anyS_one (i := 7) (by kernel_rfl) (wpOpIn_step rfl (fun K hK => ?_))
              have g0 := HBX.out.blk.cell (i := 0) rfl
              have g1 := HBX.out.blk.cell (i := 1) rfl
              have f0 := HBX.out.blk.frozen 0
              have f1 := HBX.out.blk.frozen 1
              go_simp
              have HNXZ : Hid (Nx w7 ((wx1.setCell ⟨wx0.heap.size, 0, none⟩ (.bool (rat N.rels k).only)).setCell ⟨wx0.heap.size, 1, none⟩ (.string ⟨(txt sl).toArray⟩))) := Below.setCell (Below.setCell HNX1.out HGE.out _) HGE.out _
              refine hK _ _ ⟨Or.inr (HSN.out _ HNXZ.out), ?_⟩
              clear hK K
              refine anyS_done (by kernel_rfl) ?_ _
              go_wp2
              go_meet
              exact ⟨_, rfl, rfl, HGE, HNXZ, (HBX.out.set 0 _).set 1 _⟩
          · go_simp
            generalize hWx : wx0.alloc (.cells #[.bool false, .string ⟨#[]⟩] 133) = wx1
            have HLX1 : Hid (Nx wx0 wx1) := by unfold Hid; rw [← hWx]; exact box1 _ _
            have HNX1 : Hid (Nx w7 wx1) := HNX0.out.trans HLX1.out
            have HBX : Hid (BT wx1 wx0.heap.size #[.bool false, .string ⟨#[]⟩] 133) := by unfold Hid; rw [← hWx]; exact BT.new wx0 _ _ _ rfl
            have HGE : Hid (w7.heap.size ≤ wx0.heap.size) := HNX0.out.size
            have HOWN := mkHid (Own.next HOW.out HLX1.out)
            clear HOW
            have HOW := HOWN
            clear hWx
            refine hK _ _ ⟨Or.inr (HSN.out _ HNX1.out), ?_⟩
            clear hK K
            refine anyS_one (i := 4) (by kernel_rfl) (wpOpIn_step rfl (fun K hK => ?_))
            have hcv := HOW.out.conv
            go_simp
            clear hcv
            refine hK _ _ ⟨Or.inr (HSN.out _ HNX1.out), ?_⟩
            clear hK K
            refine anyS_one (i := 5) (by kernel_rfl) (wpOpIn_step rfl (fun K hK => ?_))
            go_simp
            refine hK _ _ ⟨Or.inr (HSN.out _ HNX1.out), ?_⟩
            clear hK K
            refine anyS_one (i := 7) (by kernel_rfl) (wpOpIn_step rfl (fun K hK => ?_))
            have g0 := HBX.out.blk.cell (i := 0) rfl
            have g1 := HBX.out.blk.cell (i := 1) rfl
            have f0 := HBX.out.blk.frozen 0
            have f1 := HBX.out.blk.frozen 1
            go_simp
            have HNXZ : Hid (Nx w7 ((wx1.setCell ⟨wx0.heap.size, 0, none⟩ (.bool (rat N.rels k).only)).setCell ⟨wx0.heap.size, 1, none⟩ (.string ⟨(txt sl).toArray⟩))) := Below.setCell (Below.setCell HNX1.out HGE.out _) HGE.out _
            refine hK _ _ ⟨Or.inr (HSN.out _ HNXZ.out), ?_⟩
            clear hK K
            refine anyS_done (by kernel_rfl) ?_ _
            go_wp2
            go_meet
            exact ⟨_, rfl, rfl, HGE, HNXZ, (HBX.out.set 0 _).set 1 _⟩
        · go_simp
          generalize hWx : (w7.alloc (.cells #[.bool false, .string ⟨#[]⟩] 133)).drew = wx0
          have HLX0 : Hid (Nx w7 wx0) := by unfold Hid; rw [← hWx]; exact (box1 _ _).drew
          have HNX0 : Hid (Nx w7 wx0) := HLX0.out
          have HBX : Hid (BT wx0 w7.heap.size #[.bool false, .string ⟨#[]⟩] 133) := by unfold Hid; rw [← hWx]; exact BT.new w7 _ _ _ rfl
          have HGE : Hid (w7.heap.size ≤ w7.heap.size) := Nat.le_refl _
          clear hWx
          refine hK _ _ ⟨Or.inr (HSN.out _ HNX0.out), ?_⟩
          clear hK K
          refine anyS_one (i := 3) (by kernel_rfl) (wpOpIn_step rfl (fun K hK => ?_))
          go_simp
          refine ⟨trivial, (callsIn_wide.2 (appN_any _ (nums sl) wx0 (HSI.out.next HNX0.out) (by rw [nums_len]; have := HSM.out.1; omega) (small_nums HSM.out.2) ((HT.out.next (HN7.out.trans HNX0.out)).tab))).mono ?_⟩
          rintro e wx1 ⟨⟨bv, rfl, hbo⟩, hxb⟩
          have HNX1 : Hid (Nx w7 wx1) := HNX0.out.trans hxb
          have HOW : Hid (Own wx0.heap.size wx1 bv (txt sl)) := by
            rw [nums_len, numsTo_txt sl sl.length (Nat.le_refl _), List.take_length] at hbo
            exact hbo
          obtain ⟨ba, bc, rfl⟩ := row_slice HOW.out
          have HBX1 := mkHid (HBX.out.next hxb)
          clear HBX
          have HBX := HBX1
          generalize hbn : (txt sl).length = bn at *
          clear hbo hxb hbn
          refine hK _ _ ⟨Or.inr (HSN.out _ HNX1.out), ?_⟩
          clear hK K
          refine anyS_one (i := 4) (by kernel_rfl) (wpOpIn_step rfl (fun K hK => ?_))
          have hcv := HOW.out.conv
          go_simp
          clear hcv
          refine hK _ _ ⟨Or.inr (HSN.out _ HNX1.out), ?_⟩
          clear hK K
          refine anyS_one (i := 5) (by kernel_rfl) (wpOpIn_step rfl (fun K hK => ?_))
          go_simp
          refine hK _ _ ⟨Or.inr (HSN.out _ HNX1.out), ?_⟩
          clear hK K
          refine anyS_one (i := 7) (by kernel_rfl) (wpOpIn_step rfl (fun K hK => ?_))
          have g0 := HBX.out.blk.cell (i := 0) rfl
          have g1 := HBX.out.blk.cell (i := 1) rfl
          have f0 := HBX.out.blk.frozen 0
          have f1 := HBX.out.blk.frozen 1
          go_simp
          have HNXZ : Hid (Nx w7 ((wx1.setCell ⟨w7.heap.size, 0, none⟩ (.bool (rat N.rels k).only)).setCell ⟨w7.heap.size, 1, none⟩ (.string ⟨(txt sl).toArray⟩))) := Below.setCell (Below.setCell HNX1.out HGE.out _) HGE.out _
          refine hK _ _ ⟨Or.inr (HSN.out _ HNXZ.out), ?_⟩
          clear hK K
          refine anyS_done (by kernel_rfl) ?_ _
          go_wp2
          go_meet
          exact ⟨_, rfl, rfl, HGE, HNXZ, (HBX.out.set 0 _).set 1 _⟩
      case rest =>
        obtain ⟨gb, rfl, rfl, HGB, HXC, HBG⟩ := hcut
        have HXRC : Hid (Nx wr wc) := HXR7.out.trans HXC.out
        have HNC : Hid (Nx w wc) := HN.out.trans HXRC.out
        have HB0C : Hid (BT wc w.heap.size #[.slice none 0 0, .slice none 0 0] 32) := HB0.out.next HXRC.out
        have HB1C : Hid (BT wc b1 #[.slice ar nu cr, .slice ad nd cd] 32) := HB1.out.next HXRC.out
        have HMC : Hid (MadeM wc bm ((resTo (chP N) N.rels k).rules.map rk)) := HM.out.ck (Ck.nx (X := noX) (K := noX) HXRC.out) id
        have HOXC : Hid (OwnX w0.heap.size wc (.slice ar nu cr) (resTo (chP N) N.rels k).rules) := HOX.out.next HXRC.out
        have HODC : Hid (OwnD w0.heap.size wc (.slice ad nd cd) (resTo (chP N) N.rels k).drops) := OwnD.next HOD.out HXRC.out
        have HBRC : Hid (BT wc wr.heap.size #[.int .i64 (rat N.rels k).id, .bool (rat N.rels k).only, .int .i64 (rat N.rels k).frm, .int .i64 (rat N.rels k).to, .bool (rat N.rels k).via, .int .i64 (rat N.rels k).node, .slice va vn vc] 93) := HB7.out.next HXC.out
        have HZC : Hid (w0.heap.size ≤ wc.heap.size) := Nat.le_trans HZW0.out HXRC.out.size
        obtain ⟨kl, hkl⟩ := rkey_ok (rat N.rels k).only (txt sl) (txt_len HSM.out.1 HSM.out.2)
        obtain ⟨lv, bb, hlk, hbb⟩ := HMC.out.look hkl
        have HKL : Hid (keyOf Tryz.prog 133 (rkey (rat N.rels k).only (txt sl)) = some kl) := hkl
        have HBBK : Hid (bb = true ↔ rkey (rat N.rels k).only (txt sl) ∈ (resTo (chP N) N.rels k).rules.map rk) := hbb
        have hrp := rk_mem (resTo_nums (ch := chP N) (rels := N.rels) k) (rat N.rels k).only sl
        have HRPT : Hid (rpt (resTo (chP N) N.rels k).rules (rat N.rels k).only (nums sl) = bb) := by
          unfold Hid
          cases hb : bb
          · cases h : rpt (resTo (chP N) N.rels k).rules (rat N.rels k).only (nums sl)
            · rfl
            · exact absurd (hbb.2 (hrp.2 h)) (by rw [hb]; simp)
          · exact hrp.1 (hbb.1 hb)
        unfold rkey at hlk
        have e0 := HBG.out.blk.cell (i := 0) rfl
        have e1 := HBG.out.blk.cell (i := 1) rfl
        have q0 := HBRC.out.blk.cell (i := 0) rfl
        have q1 := HBRC.out.blk.cell (i := 1) rfl
        have x0 := HB1C.out.blk.cell (i := 0) rfl
        have x1 := HB1C.out.blk.cell (i := 1) rfl
        clear hkl hbb hrp
        have hkb : nu ≤ 1000 ∧ nd ≤ 1000 := by omega
        by_cases hone : (chP N (rat N.rels k)).length = 1
        · have hso : so = 0 := by have := HSO.out; unfold soleOf at this; rw [if_neg (by omega), if_pos hone] at this; omega
          subst hso
          have HONE : Hid ((chP N (rat N.rels k)).length = 1) := hone
          obtain ⟨_, hsl, hown⟩ := HCASE.out.resolve_right (fun h => h hone)
          have HSL : Hid (sl = lsat (chP N (rat N.rels k)) 0) := hsl
          have HOWS : Hid (OwnI w6.heap.size w7 (.slice sa sn sc) (nums sl)) := hown
          have HREA : Hid (reason (resTo (chP N) N.rels k).rules (rat N.rels k).only (chP N (rat N.rels k)) = if bb then 3 else 0) := by
            unfold Hid reason
            rw [if_neg (by omega), if_neg (by omega), ← hsl, HRPT.out]
          clear hone hsl hown
          cases bb
          · have HSTEP : Hid ((resTo (chP N) N.rels (k + 1)) = ⟨(resTo (chP N) N.rels k).rules ++ [⟨(rat N.rels k).id, (rat N.rels k).only, nums sl⟩], (resTo (chP N) N.rels k).drops⟩) := by
              show resStep _ _ _ = _
              unfold resStep
              rw [if_pos (by rw [HREA.out]; rfl), ← HSL.out]
            obtain ⟨w8, hup, hm8, hc8⟩ := HMC.out.put (val := .int .i64 (rat N.rels k).id) HKL.out (fun h => by have := HBBK.out.2 h; cases this) (by rw [List.length_map, HNU.out]; have := hrl.1; omega)
            have HM8 : Hid (MadeM w8 bm (((resTo (chP N) N.rels k).rules ++ [(⟨(rat N.rels k).id, (rat N.rels k).only, nums sl⟩ : Ru)]).map rk)) := by
              unfold Hid
              rw [List.map_append, List.map_singleton, rk_nums _ sl rfl]
              exact hm8
            have HC8 : Hid (Chg (fun x => x = bm) wc w8) := hc8
            have nbm : ∀ b, b = bm → b < w0.heap.size := fun b e => by have := HBB.out; have := HS0.out; omega
            have HB08 : Hid (BT w8 w.heap.size #[.slice none 0 0, .slice none 0 0] 32) := HB0C.out.chg hc8 (by have := HBB.out; omega)
            have HB18 : Hid (BT w8 b1 #[.slice ar nu cr, .slice ad nd cd] 32) := HB1C.out.chg hc8 (by have := HBB.out; omega)
            have HOD8 : Hid (OwnD w0.heap.size w8 (.slice ad nd cd) (resTo (chP N) N.rels k).drops) := row_low' HODC.out hc8 nbm
            have HBR8 : Hid (BT w8 wr.heap.size #[.int .i64 (rat N.rels k).id, .bool (rat N.rels k).only, .int .i64 (rat N.rels k).frm, .int .i64 (rat N.rels k).to, .bool (rat N.rels k).via, .int .i64 (rat N.rels k).node, .slice va vn vc] 93) := HBRC.out.chg hc8 (by have := HBB.out; have := HS0.out; have := HZW0.out; omega)
            have HZ8 : Hid (w0.heap.size ≤ w8.heap.size) := Nat.le_trans HZC.out hc8.size
            have HN8 : Hid (Nx w w8) := nx_young HNC.out hc8 (fun b e => by have := HBB.out; omega)
            have HSQ8 : Hid (OwnI w0.heap.size w8 (.slice sa sn sc) (nums sl)) := row_low' (OwnI.base (OwnI.next HOWS.out HXC.out) HZ6.out.2) hc8 nbm
            obtain ⟨vs, jv, hrow, jw, jap⟩ := HOX.out
            have HJV : Hid (vs.length = (resTo (chP N) N.rels k).rules.length) := jv
            have HROW : Hid (w8.ownsRow w0.heap.size 100 3 (.slice ar nu cr) (resTo (chP N) N.rels k).rules.length (rcells (resTo (chP N) N.rels k).rules vs)) := row_low' (row_next hrow HXRC.out) hc8 nbm
            have HJW : Hid (∀ i, i < (resTo (chP N) N.rels k).rules.length → OwnI w0.heap.size w8 (vat vs i) (ruat (resTo (chP N) N.rels k).rules i).seq) := fun i hi => row_low' (OwnI.next (jw i hi) HXRC.out) hc8 nbm
            have HJN : Hid (∀ i g, i < (resTo (chP N) N.rels k).rules.length → (vat vs i).ownBlock = some g → (Value.slice sa sn sc).ownBlock ≠ some g) := fun i g hi hg e => by
              have h1 := (own_lt (jw i hi) g hg).2
              have h2 := (own_lt HOWS.out g e).1
              have := HZ6.out.1
              omega
            have HJA : Hid (∀ i j g, i < j → j < (resTo (chP N) N.rels k).rules.length → (vat vs i).ownBlock = some g → (vat vs j).ownBlock ≠ some g) := jap
            have r0 := HBR8.out.blk.cell (i := 0) rfl
            have r1 := HBR8.out.blk.cell (i := 1) rfl
            have s0 := HB18.out.blk.cell (i := 0) rfl
            clear hm8 hc8 jv hrow jw jap
            unfold rkey at hup
            go_wp2_with (at_builtin; refine wpList_append_own_at _ rfl _ _ 29 rfl w0.heap.size 100 iR (.agg #[.int .i64 0, .bool false, .slice none 0 0]) 3 40 Tryz.underlying29 hiR hzR0 hzR1 hzR2 rfl (by decide) _ _ _ rfl (World.ownsRow.alloc HROW.out _) ⟨w8.heap.size, 0, none⟩ 1 1 [.int .i64 (rat N.rels k).id, .bool (rat N.rels k).only, .slice sa sn sc] rfl rfl (fun j u hj => new_cells w8 _ _ _ rfl j u hj) ?c2 ?c3 ?c4 ?c5 ?_)
            case c2 => first | exact ⟨rfl, rfl, rfl⟩ | (intro u hu; simp at hu; rcases hu with rfl | rfl | rfl <;> rfl)
            case c3 => rw [HNU.out]; unfold maxLen; omega
            case c4 => rw [HNU.out]; omega
            case c5 => have := HZ8.out; simp; omega
            intro v9 w9 hown hgrow _ _
            obtain ⟨a9, c9, rfl⟩ := row_slice hown
            have HOX9 : Hid (OwnX w0.heap.size w9 (.slice a9 _ c9) ((resTo (chP N) N.rels k).rules ++ [(⟨(rat N.rels k).id, (rat N.rels k).only, nums sl⟩ : Ru)])) := OwnX.snoc HJV.out HROW.out HJW.out HJA.out HSQ8.out HJN.out _ hgrow hown
            have HC9 : Hid (Chg (fun x => some x = (Value.slice ar nu cr).ownBlock) _ w9) := Chg.grown hgrow (fun _ e => e)
            have nlow : ∀ b, b < w0.heap.size → ¬ some b = (Value.slice ar nu cr).ownBlock := fun b hb e => by have := (own_lt HROW.out b e.symm).1; omega
            have HB19 : Hid (BT w9 b1 #[.slice ar nu cr, .slice ad nd cd] 32) := (HB18.out.alloc _).chg HC9.out (nlow _ (by have := HBB.out; have := HS0.out; omega))
            have HB09 : Hid (BT w9 w.heap.size #[.slice none 0 0, .slice none 0 0] 32) := (HB08.out.alloc _).chg HC9.out (nlow _ (by have := HS0.out; omega))
            have HM9 : Hid (MadeM w9 bm (((resTo (chP N) N.rels k).rules ++ [(⟨(rat N.rels k).id, (rat N.rels k).only, nums sl⟩ : Ru)]).map rk)) := (HM8.out.ck (Ck.nx (X := noX) (K := noX) (box1 _ _)) id).ck (Ck.chg (K := noX) HC9.out) (nlow _ (by have := HBB.out; have := HS0.out; omega))
            have HOD9 : Hid (OwnD w0.heap.size w9 (.slice ad nd cd) (resTo (chP N) N.rels k).drops) := World.ownsRow.kept (World.ownsRow.alloc HOD8.out _) hgrow (own_ne HOD8.out HROW.out (by decide))
            have HN9 : Hid (Nx w w9) := Below.grown (HN8.out.alloc _) hgrow (by have := HZ8.out; have := HS0.out; simp; omega) (fun g hg => by have := (own_lt HROW.out g hg).1; have := HS0.out; omega)
            have HZ9 : Hid (w0.heap.size ≤ w9.heap.size) := by have h1 := HZ8.out; have h2 := hgrow.size; simp at h2; unfold Hid; omega
            have t0 := HB19.out.blk.cell (i := 0) rfl
            have g0 := HB19.out.blk.frozen 0
            clear hown hgrow
            go_wp2
            go_roundw
            case rel =>
              have cs : Chg (fun x => x = b1) w9 (w9.setCell ⟨b1, 0, none⟩ (.slice a9 ((resTo (chP N) N.rels k).rules.length + 1) c9)) := Chg.set _ _ _ rfl
              have nb1 : ∀ b, b = b1 → b < w0.heap.size := fun b e => by have := HBB.out; have := HS0.out; omega
              refine ⟨k + 1, _, _, by omega, by go_num, HB09.out.chg cs (by have := HBB.out; omega), HB19.out.set 0 _, ?_, ?_, ?_, ?_, ?_⟩
              · show MadeM _ _ _
                rw [HSTEP.out]
                exact HM9.out.ck (Ck.chg (K := noX) cs) (by have := HBB.out; omega)
              · show OwnX _ _ _ _
                rw [HSTEP.out]
                exact HOX9.out.low cs nb1
              · show OwnD _ _ _ _
                rw [HSTEP.out]
                exact row_low' HOD9.out cs nb1
              · have := HZ9.out
                unfold Hid
                simpa [World.setCell] using this
              · exact Below.setCell HN9.out (by have := HBB.out; show w.heap.size ≤ b1; omega) _
            case measure => simp [intOf]; omega
          · have HSTEP : Hid ((resTo (chP N) N.rels (k + 1)) = ⟨(resTo (chP N) N.rels k).rules, (resTo (chP N) N.rels k).drops ++ [⟨(rat N.rels k).id, 3⟩]⟩) := by
              show resStep _ _ _ = _
              unfold resStep
              rw [if_neg (by rw [HREA.out]; simp), HREA.out]
              rfl
            go_wp2_with (at_builtin; refine wpList_append_own_at _ rfl _ _ 30 rfl w0.heap.size 104 iD (.agg #[.int .i64 0, .int .i64 0]) 2 16 Tryz.underlying30 hiD hzD0 hzD1 hzD2 rfl (by decide) _ _ _ rfl (World.ownsRow.alloc HODC.out _) ⟨wc.heap.size, 0, none⟩ 1 1 [.int .i64 (rat N.rels k).id, .int .i64 3] rfl rfl (fun j u hj => new_cells wc _ _ _ rfl j u hj) ?c2 ?c3 ?c4 ?c5 ?_)
            case c2 => first | exact ⟨rfl, rfl⟩ | (intro u hu; simp at hu; rcases hu with rfl | rfl <;> rfl)
            case c3 => rw [HND.out]; unfold maxLen; omega
            case c4 => rw [HND.out]; omega
            case c5 => have := HZC.out; simp; omega
            intro v9 w9 hown hgrow _ _
            obtain ⟨a9, c9, rfl⟩ := row_slice hown
            have HOD9 : Hid (OwnD w0.heap.size w9 (.slice a9 _ c9) ((resTo (chP N) N.rels k).drops ++ [⟨(rat N.rels k).id, 3⟩])) := OwnD.snoc hown
            have HOX9 : Hid (OwnX w0.heap.size w9 (.slice ar nu cr) (resTo (chP N) N.rels k).rules) := OwnX.drops HOXC.out HODC.out hgrow
            have HC9 : Hid (Chg (fun x => some x = (Value.slice ad nd cd).ownBlock) _ w9) := Chg.grown hgrow (fun _ e => e)
            have nlow : ∀ b, b < w0.heap.size → ¬ some b = (Value.slice ad nd cd).ownBlock := fun b hb e => by have := (own_lt HODC.out b e.symm).1; omega
            have HB19 : Hid (BT w9 b1 #[.slice ar nu cr, .slice ad nd cd] 32) := (HB1C.out.alloc _).chg HC9.out (nlow _ (by have := HBB.out; have := HS0.out; omega))
            have HB09 : Hid (BT w9 w.heap.size #[.slice none 0 0, .slice none 0 0] 32) := (HB0C.out.alloc _).chg HC9.out (nlow _ (by have := HS0.out; omega))
            have HM9 : Hid (MadeM w9 bm ((resTo (chP N) N.rels k).rules.map rk)) := (HMC.out.ck (Ck.nx (X := noX) (K := noX) (box1 _ _)) id).ck (Ck.chg (K := noX) HC9.out) (nlow _ (by have := HBB.out; have := HS0.out; omega))
            have HN9 : Hid (Nx w w9) := Below.grown (HNC.out.alloc _) hgrow (by have := HZC.out; have := HS0.out; simp; omega) (fun g hg => by have := (own_lt HODC.out g hg).1; have := HS0.out; omega)
            have HZ9 : Hid (w0.heap.size ≤ w9.heap.size) := by have h1 := HZC.out; have h2 := hgrow.size; simp at h2; unfold Hid; omega
            have t0 := HB19.out.blk.cell (i := 1) rfl
            have g0 := HB19.out.blk.frozen 1
            clear hown hgrow
            go_wp2
            go_roundw
            case rel =>
              have cs : Chg (fun x => x = b1) w9 (w9.setCell ⟨b1, 1, none⟩ (.slice a9 ((resTo (chP N) N.rels k).drops.length + 1) c9)) := Chg.set _ _ _ rfl
              have nb1 : ∀ b, b = b1 → b < w0.heap.size := fun b e => by have := HBB.out; have := HS0.out; omega
              refine ⟨k + 1, _, _, by omega, by go_num, HB09.out.chg cs (by have := HBB.out; omega), HB19.out.set 1 _, ?_, ?_, ?_, ?_, ?_⟩
              · show MadeM _ _ _
                rw [HSTEP.out]
                exact HM9.out.ck (Ck.chg (K := noX) cs) (by have := HBB.out; omega)
              · show OwnX _ _ _ _
                rw [HSTEP.out]
                exact HOX9.out.low cs nb1
              · show OwnD _ _ _ _
                rw [HSTEP.out]
                exact row_low' HOD9.out cs nb1
              · have := HZ9.out
                unfold Hid
                simpa [World.setCell] using this
              · exact Below.setCell HN9.out (by have := HBB.out; show w.heap.size ≤ b1; omega) _
            case measure => simp [intOf]; omega
        · have hso : ¬ so = 0 := by have := HSO.out; unfold soleOf at this; rw [if_neg hone] at this; split at this <;> omega
          have hsb : (so == 0) = false := by simpa using hso
          have hsn : (so != 0) = true := by simpa using hso
          have HSTEP : Hid ((resTo (chP N) N.rels (k + 1)) = ⟨(resTo (chP N) N.rels k).rules, (resTo (chP N) N.rels k).drops ++ [⟨(rat N.rels k).id, so⟩]⟩) := by
            have hr : reason (resTo (chP N) N.rels k).rules (rat N.rels k).only (chP N (rat N.rels k)) = so := by
              have := HSO.out
              unfold soleOf at this
              unfold reason
              by_cases h0 : (chP N (rat N.rels k)).length = 0
              · rw [if_pos h0] at this ⊢; exact this
              · rw [if_neg h0, if_neg hone] at this
                rw [if_neg h0, if_pos (by omega)]; exact this
            show resStep _ _ _ = _
            unfold resStep
            rw [if_neg (by rw [hr]; exact hso), hr]
          clear hone
          cases bb
          · skip
            go_wp2_with (at_builtin; refine wpList_append_own_at _ rfl _ _ 30 rfl w0.heap.size 104 iD (.agg #[.int .i64 0, .int .i64 0]) 2 16 Tryz.underlying30 hiD hzD0 hzD1 hzD2 rfl (by decide) _ _ _ rfl (World.ownsRow.alloc HODC.out _) ⟨wc.heap.size, 0, none⟩ 1 1 [.int .i64 (rat N.rels k).id, .int .i64 so] rfl rfl (fun j u hj => new_cells wc _ _ _ rfl j u hj) ?c2 ?c3 ?c4 ?c5 ?_)
            case c2 => first | exact ⟨rfl, rfl⟩ | (intro u hu; simp at hu; rcases hu with rfl | rfl <;> rfl)
            case c3 => rw [HND.out]; unfold maxLen; omega
            case c4 => rw [HND.out]; omega
            case c5 => have := HZC.out; simp; omega
            intro v9 w9 hown hgrow _ _
            obtain ⟨a9, c9, rfl⟩ := row_slice hown
            have HOD9 : Hid (OwnD w0.heap.size w9 (.slice a9 _ c9) ((resTo (chP N) N.rels k).drops ++ [⟨(rat N.rels k).id, so⟩])) := OwnD.snoc hown
            have HOX9 : Hid (OwnX w0.heap.size w9 (.slice ar nu cr) (resTo (chP N) N.rels k).rules) := OwnX.drops HOXC.out HODC.out hgrow
            have HC9 : Hid (Chg (fun x => some x = (Value.slice ad nd cd).ownBlock) _ w9) := Chg.grown hgrow (fun _ e => e)
            have nlow : ∀ b, b < w0.heap.size → ¬ some b = (Value.slice ad nd cd).ownBlock := fun b hb e => by have := (own_lt HODC.out b e.symm).1; omega
            have HB19 : Hid (BT w9 b1 #[.slice ar nu cr, .slice ad nd cd] 32) := (HB1C.out.alloc _).chg HC9.out (nlow _ (by have := HBB.out; have := HS0.out; omega))
            have HB09 : Hid (BT w9 w.heap.size #[.slice none 0 0, .slice none 0 0] 32) := (HB0C.out.alloc _).chg HC9.out (nlow _ (by have := HS0.out; omega))
            have HM9 : Hid (MadeM w9 bm ((resTo (chP N) N.rels k).rules.map rk)) := (HMC.out.ck (Ck.nx (X := noX) (K := noX) (box1 _ _)) id).ck (Ck.chg (K := noX) HC9.out) (nlow _ (by have := HBB.out; have := HS0.out; omega))
            have HN9 : Hid (Nx w w9) := Below.grown (HNC.out.alloc _) hgrow (by have := HZC.out; have := HS0.out; simp; omega) (fun g hg => by have := (own_lt HODC.out g hg).1; have := HS0.out; omega)
            have HZ9 : Hid (w0.heap.size ≤ w9.heap.size) := by have h1 := HZC.out; have h2 := hgrow.size; simp at h2; unfold Hid; omega
            have t0 := HB19.out.blk.cell (i := 1) rfl
            have g0 := HB19.out.blk.frozen 1
            clear hown hgrow
            go_wp2
            go_roundw
            case rel =>
              have cs : Chg (fun x => x = b1) w9 (w9.setCell ⟨b1, 1, none⟩ (.slice a9 ((resTo (chP N) N.rels k).drops.length + 1) c9)) := Chg.set _ _ _ rfl
              have nb1 : ∀ b, b = b1 → b < w0.heap.size := fun b e => by have := HBB.out; have := HS0.out; omega
              refine ⟨k + 1, _, _, by omega, by go_num, HB09.out.chg cs (by have := HBB.out; omega), HB19.out.set 1 _, ?_, ?_, ?_, ?_, ?_⟩
              · show MadeM _ _ _
                rw [HSTEP.out]
                exact HM9.out.ck (Ck.chg (K := noX) cs) (by have := HBB.out; omega)
              · show OwnX _ _ _ _
                rw [HSTEP.out]
                exact HOX9.out.low cs nb1
              · show OwnD _ _ _ _
                rw [HSTEP.out]
                exact row_low' HOD9.out cs nb1
              · have := HZ9.out
                unfold Hid
                simpa [World.setCell] using this
              · exact Below.setCell HN9.out (by have := HBB.out; show w.heap.size ≤ b1; omega) _
            case measure => simp [intOf]; omega
          · skip
            go_wp2_with (at_builtin; refine wpList_append_own_at _ rfl _ _ 30 rfl w0.heap.size 104 iD (.agg #[.int .i64 0, .int .i64 0]) 2 16 Tryz.underlying30 hiD hzD0 hzD1 hzD2 rfl (by decide) _ _ _ rfl (World.ownsRow.alloc HODC.out _) ⟨wc.heap.size, 0, none⟩ 1 1 [.int .i64 (rat N.rels k).id, .int .i64 so] rfl rfl (fun j u hj => new_cells wc _ _ _ rfl j u hj) ?c2 ?c3 ?c4 ?c5 ?_)
            case c2 => first | exact ⟨rfl, rfl⟩ | (intro u hu; simp at hu; rcases hu with rfl | rfl <;> rfl)
            case c3 => rw [HND.out]; unfold maxLen; omega
            case c4 => rw [HND.out]; omega
            case c5 => have := HZC.out; simp; omega
            intro v9 w9 hown hgrow _ _
            obtain ⟨a9, c9, rfl⟩ := row_slice hown
            have HOD9 : Hid (OwnD w0.heap.size w9 (.slice a9 _ c9) ((resTo (chP N) N.rels k).drops ++ [⟨(rat N.rels k).id, so⟩])) := OwnD.snoc hown
            have HOX9 : Hid (OwnX w0.heap.size w9 (.slice ar nu cr) (resTo (chP N) N.rels k).rules) := OwnX.drops HOXC.out HODC.out hgrow
            have HC9 : Hid (Chg (fun x => some x = (Value.slice ad nd cd).ownBlock) _ w9) := Chg.grown hgrow (fun _ e => e)
            have nlow : ∀ b, b < w0.heap.size → ¬ some b = (Value.slice ad nd cd).ownBlock := fun b hb e => by have := (own_lt HODC.out b e.symm).1; omega
            have HB19 : Hid (BT w9 b1 #[.slice ar nu cr, .slice ad nd cd] 32) := (HB1C.out.alloc _).chg HC9.out (nlow _ (by have := HBB.out; have := HS0.out; omega))
            have HB09 : Hid (BT w9 w.heap.size #[.slice none 0 0, .slice none 0 0] 32) := (HB0C.out.alloc _).chg HC9.out (nlow _ (by have := HS0.out; omega))
            have HM9 : Hid (MadeM w9 bm ((resTo (chP N) N.rels k).rules.map rk)) := (HMC.out.ck (Ck.nx (X := noX) (K := noX) (box1 _ _)) id).ck (Ck.chg (K := noX) HC9.out) (nlow _ (by have := HBB.out; have := HS0.out; omega))
            have HN9 : Hid (Nx w w9) := Below.grown (HNC.out.alloc _) hgrow (by have := HZC.out; have := HS0.out; simp; omega) (fun g hg => by have := (own_lt HODC.out g hg).1; have := HS0.out; omega)
            have HZ9 : Hid (w0.heap.size ≤ w9.heap.size) := by have h1 := HZC.out; have h2 := hgrow.size; simp at h2; unfold Hid; omega
            have t0 := HB19.out.blk.cell (i := 1) rfl
            have g0 := HB19.out.blk.frozen 1
            clear hown hgrow
            go_wp2
            go_roundw
            case rel =>
              have cs : Chg (fun x => x = b1) w9 (w9.setCell ⟨b1, 1, none⟩ (.slice a9 ((resTo (chP N) N.rels k).drops.length + 1) c9)) := Chg.set _ _ _ rfl
              have nb1 : ∀ b, b = b1 → b < w0.heap.size := fun b e => by have := HBB.out; have := HS0.out; omega
              refine ⟨k + 1, _, _, by omega, by go_num, HB09.out.chg cs (by have := HBB.out; omega), HB19.out.set 1 _, ?_, ?_, ?_, ?_, ?_⟩
              · show MadeM _ _ _
                rw [HSTEP.out]
                exact HM9.out.ck (Ck.chg (K := noX) cs) (by have := HBB.out; omega)
              · show OwnX _ _ _ _
                rw [HSTEP.out]
                exact HOX9.out.low cs nb1
              · show OwnD _ _ _ _
                rw [HSTEP.out]
                exact row_low' HOD9.out cs nb1
              · have := HZ9.out
                unfold Hid
                simpa [World.setCell] using this
              · exact Below.setCell HN9.out (by have := HBB.out; show w.heap.size ≤ b1; omega) _
            case measure => simp [intOf]; omega
    · have ek : k = nr := by omega
      subst ek
      have y0 := HB0.out.blk.cell (i := 0) rfl
      have y1 := HB0.out.blk.cell (i := 1) rfl
      have f0 := HB0.out.blk.frozen 0
      have f1 := HB0.out.blk.frozen 1
      have z0 := HB1.out.blk.cell (i := 0) rfl
      have z1 := HB1.out.blk.cell (i := 1) rfl
      have BR' := (HB0.out.set 0 (.slice ar nu cr)).set 1 (.slice ad nd cd)
      have p0 : _ = some (Value.slice ar nu cr) := BR'.blk.cell (i := 0) rfl
      have p1 : _ = some (Value.slice ad nd cd) := BR'.blk.cell (i := 1) rfl
      go_wp2
      refine bodyPost_ret (v := .agg #[.slice ar nu cr, .slice ad nd cd]) (by simp [results, Tryz.results31, go_sem, p0, p1]) rfl ?_
      have h1 : w.heap.size < w0.heap.size := by have := HS0.out; omega
      have c1 : Chg (fun x => x = w.heap.size) wr ((wr.setCell ⟨w.heap.size, 0, none⟩ (.slice ar nu cr)).setCell ⟨w.heap.size, 1, none⟩ (.slice ad nd cd)) := (Chg.set (S := fun x => x = w.heap.size) w.heap.size 0 _ rfl).trans (Chg.set (S := fun x => x = w.heap.size) w.heap.size 1 _ rfl)
      refine ⟨⟨_, _, rfl, (HOX.out.low c1 (fun b e => by omega)).base (Nat.le_of_lt h1), row_base (row_low' HOD.out c1 (fun b e => by omega)) (Nat.le_of_lt h1)⟩, Below.setCell (Below.setCell HN.out (Nat.le_refl _) _) (Nat.le_refl _) _⟩
end Go.Proofs.YtcdjmpbdaiafgaaGreatDoor
