import Derived.Test.YtcdjmpbdaiafgaaGreatDoorMC
import Derived.Test.YtcdjmpbdaiafgaaGreatDoorShelf
import Derived.Lib.AppendIntMem
import Derived.Lib.ItoaLen
import Derived.Lib.OthersKept
import Derived.DeepKeys4
import Derived.Laws.BytesArg
import Derived.Laws.IdiomStrings
import Derived.Laws.IdiomMaps
namespace Go.Proofs.YtcdjmpbdaiafgaaGreatDoor
open Go.RowKit Go.Sort Go.Maps Go.Shelf
set_option linter.unusedVariables false
set_option maxRecDepth 100000

set_option maxHeartbeats 8000000 in
theorem chains_any (C : Nat) (N : Nt) (L : Lk) (r : Rl) (va : Option Addr) (vn vc : Nat) (w : World) (hv : implValid N = true) (hR : LR C N (E1 N) N.ways.length (E1 N).length (E1 N).length (E1 N).length N.ways.length w L) (hg : RelG N r) :
    Calls Tryz.prog 71 #[.pointer (some ⟨L.br, 0, none⟩), .agg #[.int .i64 r.id, .bool r.only, .int .i64 r.frm, .int .i64 r.to, .bool r.via, .int .i64 r.node, .slice va vn vc]] w fun e w' => (∃ b2 b3 b5 b6, e = .returned (.func (.func 105) #[] #[.pointer (some ⟨b2, 0, none⟩), .pointer (some ⟨b3, 0, none⟩), .pointer (some ⟨b5, 0, none⟩), .pointer (some ⟨b6, 0, none⟩)]) ∧ BT w' b2 #[.pointer (some ⟨L.br, 0, none⟩)] 65 ∧ BT w' b3 #[.int .i64 r.id, .bool r.only, .int .i64 r.frm, .int .i64 r.to, .bool r.via, .int .i64 r.node, .slice va vn vc] 93 ∧ BT w' b5 #[.pointer (some ⟨L.wb (wpos N.ways r.frm), 0, none⟩)] 116 ∧ BT w' b6 #[.pointer (some ⟨L.wb (wpos N.ways r.to), 0, none⟩)] 116) ∧ Nx w w' := by
  have HV : Hid (implValid N = true) := hv
  have HR : Hid (LR C N (E1 N) N.ways.length (E1 N).length (E1 N).length (E1 N).length N.ways.length w L) := hR
  have HG : Hid (RelG N r) := hg
  have hmx : Tryz.prog.follows .mixedOrders = true := by kernel_rfl
  have hmf : ∀ (fn : Fn) (first cap : Array Value) (w : World), (Instr.makeFunc fn first cap).run Tryz.prog w = .ok (.func fn first cap) w := fun _ _ _ _ => rfl
  clear hv hR hg
  go_enter Tryz.func71, Tryz.ntmps71
  go_upto_region 1 with fail
  generalize hW0 : (w.alloc (.cells #[.pointer (some ⟨L.br, 0, none⟩)] 65)).alloc (.cells #[.int .i64 r.id, .bool r.only, .int .i64 r.frm, .int .i64 r.to, .bool r.via, .int .i64 r.node, .slice va vn vc] 93) = w0
  have HX0 : Hid (Nx w w0) := by unfold Hid; rw [← hW0]; exact (box1 _ _).trans (box1 _ _)
  have HS0 : Hid (w0.heap.size = w.heap.size + 2) := by unfold Hid; rw [← hW0]; simp
  have HB2 : Hid (BT w0 w.heap.size #[.pointer (some ⟨L.br, 0, none⟩)] 65) := by unfold Hid; rw [← hW0]; exact (BT.new w _ _ _ rfl).alloc _
  have HB3 : Hid (BT w0 (w.heap.size + 1) #[.int .i64 r.id, .bool r.only, .int .i64 r.frm, .int .i64 r.to, .bool r.via, .int .i64 r.node, .slice va vn vc] 93) := by unfold Hid; rw [← hW0]; exact BT.new _ _ _ _ (by simp)
  clear hW0
  have HSN0 : Hid (∀ q, Nx w0 q → LR C N (E1 N) N.ways.length (E1 N).length (E1 N).length (E1 N).length N.ways.length q L) := fun q hq => (HR.out.next HX0.out).next hq
  generalize hpf : wpos N.ways r.frm = pf at *
  generalize hpt : wpos N.ways r.to = pt at *
  have HPF : Hid (wpos N.ways r.frm = pf) := hpf
  have HPT : Hid (wpos N.ways r.to = pt) := hpt
  have HPFX := HPF
  have HPTX := HPT
  clear hpf hpt
  have HSN : Hid (∀ q, Nx w0 q → (fun q => q.cell? ⟨w.heap.size, 0, none⟩ = some (.pointer (some ⟨L.br, 0, none⟩)) ∧ q.cell? ⟨L.br, 6, none⟩ = some (.map (some L.bm)) ∧ q.cell? ⟨w.heap.size + 1, 2, none⟩ = some (.int .i64 r.frm) ∧ q.cell? ⟨w.heap.size + 1, 3, none⟩ = some (.int .i64 r.to) ∧ (Instr.lookup 112 (.map (some L.bm)) (.int .i64 r.frm) false).run Tryz.prog q = .ok (.pointer (some ⟨L.wb pf, 0, none⟩)) q ∧ (Instr.lookup 112 (.map (some L.bm)) (.int .i64 r.to) false).run Tryz.prog q = .ok (.pointer (some ⟨L.wb pt, 0, none⟩)) q) q) := fun q hq => by
    have hl := HSN0.out q hq
    have h1 := (hl.ways HV.out rfl HG.out.frm).1
    have h2 := (hl.ways HV.out rfl HG.out.dst).1
    rw [HPF.out] at h1
    rw [HPT.out] at h2
    exact ⟨cellq hq (HB2.out.blk.cell (i := 0) rfl), hl.road.blk.cell (i := 6) rfl, cellq hq (HB3.out.blk.cell (i := 2) rfl), cellq hq (HB3.out.blk.cell (i := 3) rfl), h1, h2⟩
  have HSS : Hid ((fun q => q.cell? ⟨w.heap.size, 0, none⟩ = some (.pointer (some ⟨L.br, 0, none⟩)) ∧ q.cell? ⟨L.br, 6, none⟩ = some (.map (some L.bm)) ∧ q.cell? ⟨w.heap.size + 1, 2, none⟩ = some (.int .i64 r.frm) ∧ q.cell? ⟨w.heap.size + 1, 3, none⟩ = some (.int .i64 r.to) ∧ (Instr.lookup 112 (.map (some L.bm)) (.int .i64 r.frm) false).run Tryz.prog q = .ok (.pointer (some ⟨L.wb pf, 0, none⟩)) q ∧ (Instr.lookup 112 (.map (some L.bm)) (.int .i64 r.to) false).run Tryz.prog q = .ok (.pointer (some ⟨L.wb pt, 0, none⟩)) q) w0.drew) := HSN.out _ (show Nx w0 w0.drew from (Below.refl _ _).drew)
  refine (wpIn_wide (n := 9)).1 ?_
  refine wpIn_region_S (c := 18) (S := fun q => q.cell? ⟨w.heap.size, 0, none⟩ = some (.pointer (some ⟨L.br, 0, none⟩)) ∧ q.cell? ⟨L.br, 6, none⟩ = some (.map (some L.bm)) ∧ q.cell? ⟨w.heap.size + 1, 2, none⟩ = some (.int .i64 r.frm) ∧ q.cell? ⟨w.heap.size + 1, 3, none⟩ = some (.int .i64 r.to) ∧ (Instr.lookup 112 (.map (some L.bm)) (.int .i64 r.frm) false).run Tryz.prog q = .ok (.pointer (some ⟨L.wb pf, 0, none⟩)) q ∧ (Instr.lookup 112 (.map (some L.bm)) (.int .i64 r.to) false).run Tryz.prog q = .ok (.pointer (some ⟨L.wb pt, 0, none⟩)) q) hmx (by kernel_rfl) (fun hw hcl => ?_)
  refine anyS_take (i := 0) (v := .pointer (some ⟨L.br, 0, none⟩)) hw (by decide) hcl (noDefer_none rfl) rfl (by kernel_rfl) (by kernel_rfl) (by kernel_rfl) (fun _ _ _ h => h) ⟨Or.inl ⟨by kernel_rfl, ?y0⟩, fun _ => rfl⟩ HSS.out (fun hcl => ?_)
  case y0 =>
    rintro q ⟨c1, c2, c3, c4, c5, c6⟩
    go_simp
  refine anyS_take (i := 1) (v := .pointer (some ⟨L.br, 0, none⟩)) hw (by decide) hcl (noDefer_none rfl) rfl (by kernel_rfl) (by kernel_rfl) (by kernel_rfl) (fun _ _ _ h => h) ⟨Or.inl ⟨by kernel_rfl, ?y1⟩, fun _ => rfl⟩ HSS.out (fun hcl => ?_)
  case y1 =>
    rintro q ⟨c1, c2, c3, c4, c5, c6⟩
    go_simp
  refine anyS_take (i := 2) (v := .pointer (some ⟨L.br, 6, none⟩)) hw (by decide) hcl (noDefer_none rfl) rfl (by kernel_rfl) (by kernel_rfl) (by kernel_rfl) (fun _ _ _ h => h) ⟨Or.inl ⟨by kernel_rfl, ?y2⟩, fun _ => rfl⟩ HSS.out (fun hcl => ?_)
  case y2 =>
    rintro q ⟨c1, c2, c3, c4, c5, c6⟩
    go_simp
  refine anyS_take (i := 3) (v := .map (some L.bm)) hw (by decide) hcl (noDefer_none rfl) rfl (by kernel_rfl) (by kernel_rfl) (by kernel_rfl) (fun _ _ _ h => h) ⟨Or.inl ⟨by kernel_rfl, ?y3⟩, fun _ => rfl⟩ HSS.out (fun hcl => ?_)
  case y3 =>
    rintro q ⟨c1, c2, c3, c4, c5, c6⟩
    go_simp
  refine anyS_take (i := 4) (v := .pointer (some ⟨w.heap.size + 1, 2, none⟩)) hw (by decide) hcl (noDefer_none rfl) rfl (by kernel_rfl) (by kernel_rfl) (by kernel_rfl) (fun _ _ _ h => h) ⟨Or.inl ⟨by kernel_rfl, ?y4⟩, fun _ => rfl⟩ HSS.out (fun hcl => ?_)
  case y4 =>
    rintro q ⟨c1, c2, c3, c4, c5, c6⟩
    go_simp
  refine anyS_take (i := 5) (v := .int .i64 r.frm) hw (by decide) hcl (noDefer_none rfl) rfl (by kernel_rfl) (by kernel_rfl) (by kernel_rfl) (fun _ _ _ h => h) ⟨Or.inl ⟨by kernel_rfl, ?y5⟩, fun _ => rfl⟩ HSS.out (fun hcl => ?_)
  case y5 =>
    rintro q ⟨c1, c2, c3, c4, c5, c6⟩
    go_simp
  refine anyS_take (i := 6) (v := .pointer (some ⟨L.wb pf, 0, none⟩)) hw (by decide) hcl (noDefer_none rfl) rfl (by kernel_rfl) (by kernel_rfl) (by kernel_rfl) (fun _ _ _ h => h) ⟨Or.inl ⟨by kernel_rfl, ?y6⟩, fun _ => rfl⟩ HSS.out (fun hcl => ?_)
  case y6 =>
    rintro q ⟨c1, c2, c3, c4, c5, c6⟩
    go_simp
  refine anyS_take (i := 7) (v := .pointer (some ⟨L.br, 0, none⟩)) hw (by decide) hcl (noDefer_none rfl) rfl (by kernel_rfl) (by kernel_rfl) (by kernel_rfl) (fun _ _ _ h => h) ⟨Or.inl ⟨by kernel_rfl, ?y7⟩, fun _ => rfl⟩ HSS.out (fun hcl => ?_)
  case y7 =>
    rintro q ⟨c1, c2, c3, c4, c5, c6⟩
    go_simp
  refine anyS_take (i := 8) (v := .pointer (some ⟨L.br, 0, none⟩)) hw (by decide) hcl (noDefer_none rfl) rfl (by kernel_rfl) (by kernel_rfl) (by kernel_rfl) (fun _ _ _ h => h) ⟨Or.inl ⟨by kernel_rfl, ?y8⟩, fun _ => rfl⟩ HSS.out (fun hcl => ?_)
  case y8 =>
    rintro q ⟨c1, c2, c3, c4, c5, c6⟩
    go_simp
  refine anyS_take (i := 9) (v := .pointer (some ⟨L.br, 6, none⟩)) hw (by decide) hcl (noDefer_none rfl) rfl (by kernel_rfl) (by kernel_rfl) (by kernel_rfl) (fun _ _ _ h => h) ⟨Or.inl ⟨by kernel_rfl, ?y9⟩, fun _ => rfl⟩ HSS.out (fun hcl => ?_)
  case y9 =>
    rintro q ⟨c1, c2, c3, c4, c5, c6⟩
    go_simp
  refine anyS_take (i := 10) (v := .map (some L.bm)) hw (by decide) hcl (noDefer_none rfl) rfl (by kernel_rfl) (by kernel_rfl) (by kernel_rfl) (fun _ _ _ h => h) ⟨Or.inl ⟨by kernel_rfl, ?y10⟩, fun _ => rfl⟩ HSS.out (fun hcl => ?_)
  case y10 =>
    rintro q ⟨c1, c2, c3, c4, c5, c6⟩
    go_simp
  refine anyS_take (i := 11) (v := .pointer (some ⟨w.heap.size + 1, 3, none⟩)) hw (by decide) hcl (noDefer_none rfl) rfl (by kernel_rfl) (by kernel_rfl) (by kernel_rfl) (fun _ _ _ h => h) ⟨Or.inl ⟨by kernel_rfl, ?y11⟩, fun _ => rfl⟩ HSS.out (fun hcl => ?_)
  case y11 =>
    rintro q ⟨c1, c2, c3, c4, c5, c6⟩
    go_simp
  refine anyS_take (i := 12) (v := .int .i64 r.to) hw (by decide) hcl (noDefer_none rfl) rfl (by kernel_rfl) (by kernel_rfl) (by kernel_rfl) (fun _ _ _ h => h) ⟨Or.inl ⟨by kernel_rfl, ?y12⟩, fun _ => rfl⟩ HSS.out (fun hcl => ?_)
  case y12 =>
    rintro q ⟨c1, c2, c3, c4, c5, c6⟩
    go_simp
  refine anyS_take (i := 13) (v := .pointer (some ⟨L.wb pt, 0, none⟩)) hw (by decide) hcl (noDefer_none rfl) rfl (by kernel_rfl) (by kernel_rfl) (by kernel_rfl) (fun _ _ _ h => h) ⟨Or.inl ⟨by kernel_rfl, ?y13⟩, fun _ => rfl⟩ HSS.out (fun hcl => ?_)
  case y13 =>
    rintro q ⟨c1, c2, c3, c4, c5, c6⟩
    go_simp
  refine anyS_two (i := 14) (j := 15) (by kernel_rfl) (wpOpIn_step rfl (fun K hK => ?_)) (wpOpIn_step rfl (fun K hK => ?_))
  · go_simp
    generalize hW0 : (w0.alloc (.cells #[.pointer none] 116)).drew = wx0
    have HL0 : Hid (Nx w0 wx0) := by unfold Hid; rw [← hW0]; exact (box1 _ _).drew
    have HN0 : Hid (Nx w0 wx0) := HL0.out
    have HB50 : Hid (BT wx0 w0.heap.size #[.pointer none] 116) := by unfold Hid; rw [← hW0]; exact BT.new w0 _ _ _ rfl
    clear hW0
    refine hK _ _ ⟨Or.inr (HSN.out _ HN0.out), ?_⟩
    clear hK K
    refine anyS_one (i := 15) (by kernel_rfl) (wpOpIn_step rfl (fun K hK => ?_))
    go_simp
    generalize hW1 : (wx0.alloc (.cells #[.pointer none] 116)) = wx1
    have HL1 : Hid (Nx wx0 wx1) := by unfold Hid; rw [← hW1]; exact box1 _ _
    have HN1 : Hid (Nx w0 wx1) := HN0.out.trans HL1.out
    have HB61 : Hid (BT wx1 wx0.heap.size #[.pointer none] 116) := by unfold Hid; rw [← hW1]; exact BT.new wx0 _ _ _ rfl
    have HLT : Hid (w0.heap.size < wx0.heap.size) := HB50.out.lt
    have HB51 : Hid (BT wx1 w0.heap.size #[.pointer none] 116) := HB50.out.next HL1.out
    clear hW1
    refine hK _ _ ⟨Or.inr (HSN.out _ HN1.out), ?_⟩
    clear hK K
    refine anyS_one (i := 16) (by kernel_rfl) (wpOpIn_step rfl (fun K hK => ?_))
    have xc := HB51.out.blk.cell (i := 0) rfl
    have xf := HB51.out.blk.frozen 0
    go_simp
    clear xc xf
    generalize hW2 : wx1.setCell ⟨w0.heap.size, 0, none⟩ (.pointer (some ⟨L.wb pf, 0, none⟩)) = wx2
    have HN2 : Hid (Nx w0 wx2) := by unfold Hid; rw [← hW2]; exact Below.setCell HN1.out (by first | exact Nat.le_refl _ | exact HN0.out.size | exact HN1.out.size) _
    have HB52 : Hid (BT wx2 w0.heap.size #[.pointer (some ⟨L.wb pf, 0, none⟩)] 116) := by unfold Hid; rw [← hW2]; exact HB51.out.set 0 _
    have HB62 : Hid (BT wx2 wx0.heap.size #[.pointer none] 116) := by unfold Hid; rw [← hW2]; exact HB61.out.chg (S := fun x => x = w0.heap.size) (Chg.set _ _ _ rfl) (fun e => by have := HLT.out; omega)
    clear hW2
    refine hK _ _ ⟨Or.inr (HSN.out _ HN2.out), ?_⟩
    clear hK K
    refine anyS_one (i := 17) (by kernel_rfl) (wpOpIn_step rfl (fun K hK => ?_))
    have xc := HB62.out.blk.cell (i := 0) rfl
    have xf := HB62.out.blk.frozen 0
    go_simp
    clear xc xf
    generalize hW3 : wx2.setCell ⟨wx0.heap.size, 0, none⟩ (.pointer (some ⟨L.wb pt, 0, none⟩)) = wx3
    have HN3 : Hid (Nx w0 wx3) := by unfold Hid; rw [← hW3]; exact Below.setCell HN2.out (by first | exact Nat.le_refl _ | exact HN0.out.size | exact HN1.out.size) _
    have HB63 : Hid (BT wx3 wx0.heap.size #[.pointer (some ⟨L.wb pt, 0, none⟩)] 116) := by unfold Hid; rw [← hW3]; exact HB62.out.set 0 _
    have HB53 : Hid (BT wx3 w0.heap.size #[.pointer (some ⟨L.wb pf, 0, none⟩)] 116) := by unfold Hid; rw [← hW3]; exact HB52.out.chg (S := fun x => x = wx0.heap.size) (Chg.set _ _ _ rfl) (fun e => by have := HLT.out; omega)
    clear hW3
    refine hK _ _ ⟨Or.inr (HSN.out _ HN3.out), ?_⟩
    clear hK K
    refine anyS_done (by kernel_rfl) ?_ _
    clear hw hcl HSS HSN HSN0
    go_wp2
    go_ret
    exact ⟨⟨_, _, _, _, rfl, HB2.out.next HN3.out, HB3.out.next HN3.out, by rw [HPFX.out]; exact HB53.out, by rw [HPTX.out]; exact HB63.out⟩, HX0.out.trans HN3.out⟩
  · go_simp
    generalize hW0 : (w0.alloc (.cells #[.pointer none] 116)).drew = wx0
    have HL0 : Hid (Nx w0 wx0) := by unfold Hid; rw [← hW0]; exact (box1 _ _).drew
    have HN0 : Hid (Nx w0 wx0) := HL0.out
    have HB60 : Hid (BT wx0 w0.heap.size #[.pointer none] 116) := by unfold Hid; rw [← hW0]; exact BT.new w0 _ _ _ rfl
    clear hW0
    refine hK _ _ ⟨Or.inr (HSN.out _ HN0.out), ?_⟩
    clear hK K
    refine anyS_one (i := 14) (by kernel_rfl) (wpOpIn_step rfl (fun K hK => ?_))
    go_simp
    generalize hW1 : (wx0.alloc (.cells #[.pointer none] 116)) = wx1
    have HL1 : Hid (Nx wx0 wx1) := by unfold Hid; rw [← hW1]; exact box1 _ _
    have HN1 : Hid (Nx w0 wx1) := HN0.out.trans HL1.out
    have HB51 : Hid (BT wx1 wx0.heap.size #[.pointer none] 116) := by unfold Hid; rw [← hW1]; exact BT.new wx0 _ _ _ rfl
    have HLT : Hid (w0.heap.size < wx0.heap.size) := HB60.out.lt
    have HB61 : Hid (BT wx1 w0.heap.size #[.pointer none] 116) := HB60.out.next HL1.out
    clear hW1
    refine hK _ _ ⟨Or.inr (HSN.out _ HN1.out), ?_⟩
    clear hK K
    refine anyS_one (i := 16) (by kernel_rfl) (wpOpIn_step rfl (fun K hK => ?_))
    have xc := HB51.out.blk.cell (i := 0) rfl
    have xf := HB51.out.blk.frozen 0
    go_simp
    clear xc xf
    generalize hW2 : wx1.setCell ⟨wx0.heap.size, 0, none⟩ (.pointer (some ⟨L.wb pf, 0, none⟩)) = wx2
    have HN2 : Hid (Nx w0 wx2) := by unfold Hid; rw [← hW2]; exact Below.setCell HN1.out (by first | exact Nat.le_refl _ | exact HN0.out.size | exact HN1.out.size) _
    have HB52 : Hid (BT wx2 wx0.heap.size #[.pointer (some ⟨L.wb pf, 0, none⟩)] 116) := by unfold Hid; rw [← hW2]; exact HB51.out.set 0 _
    have HB62 : Hid (BT wx2 w0.heap.size #[.pointer none] 116) := by unfold Hid; rw [← hW2]; exact HB61.out.chg (S := fun x => x = wx0.heap.size) (Chg.set _ _ _ rfl) (fun e => by have := HLT.out; omega)
    clear hW2
    refine hK _ _ ⟨Or.inr (HSN.out _ HN2.out), ?_⟩
    clear hK K
    refine anyS_one (i := 17) (by kernel_rfl) (wpOpIn_step rfl (fun K hK => ?_))
    have xc := HB62.out.blk.cell (i := 0) rfl
    have xf := HB62.out.blk.frozen 0
    go_simp
    clear xc xf
    generalize hW3 : wx2.setCell ⟨w0.heap.size, 0, none⟩ (.pointer (some ⟨L.wb pt, 0, none⟩)) = wx3
    have HN3 : Hid (Nx w0 wx3) := by unfold Hid; rw [← hW3]; exact Below.setCell HN2.out (by first | exact Nat.le_refl _ | exact HN0.out.size | exact HN1.out.size) _
    have HB63 : Hid (BT wx3 w0.heap.size #[.pointer (some ⟨L.wb pt, 0, none⟩)] 116) := by unfold Hid; rw [← hW3]; exact HB62.out.set 0 _
    have HB53 : Hid (BT wx3 wx0.heap.size #[.pointer (some ⟨L.wb pf, 0, none⟩)] 116) := by unfold Hid; rw [← hW3]; exact HB52.out.chg (S := fun x => x = w0.heap.size) (Chg.set _ _ _ rfl) (fun e => by have := HLT.out; omega)
    clear hW3
    refine hK _ _ ⟨Or.inr (HSN.out _ HN3.out), ?_⟩
    clear hK K
    refine anyS_done (by kernel_rfl) ?_ _
    clear hw hcl HSS HSN HSN0
    go_wp2
    go_ret
    exact ⟨⟨_, _, _, _, rfl, HB2.out.next HN3.out, HB3.out.next HN3.out, by rw [HPFX.out]; exact HB53.out, by rw [HPTX.out]; exact HB63.out⟩, HX0.out.trans HN3.out⟩
end Go.Proofs.YtcdjmpbdaiafgaaGreatDoor

namespace Go.Proofs.YtcdjmpbdaiafgaaGreatDoor
open Go.RowKit Go.Sort Go.Maps Go.Shelf
set_option linter.unusedVariables false
set_option maxRecDepth 100000

-- bytes, and numbers as text
theorem infoByte : (Tryz.prog.info? 5).map (fun i => (i.zero, i.size, i.bytes)) = some (some (.int .u8 0), 1, 1) := by kernel_rfl
def Own (B : Nat) (w : World) (v : Value) (bs : List UInt8) : Prop := w.ownsRow B 5 1 v bs.length (Lib.byteCells bs)
def Gx (B : Nat) (w w' : World) : Prop := Below B w w' ∧ Lib.OthersKept 5 none w w'
theorem Gx.refl (B : Nat) (w : World) : Gx B w w := ⟨Below.refl _ _, Lib.OthersKept.refl _ _ _⟩
theorem Gx.trans {B : Nat} {a b c : World} (h : Gx B a b) (k : Gx B b c) : Gx B a c := ⟨h.1.trans k.1, h.2.trans k.2⟩
theorem Gx.alloc {B : Nat} {a w : World} (h : Gx B a w) (hB : B ≤ w.heap.size) (o : Obj) : Gx B a (w.alloc o) := ⟨h.1.alloc hB o, h.2.alloc o⟩
theorem own_row {B : Nat} {w : World} {v : Value} {bs : List UInt8} (h : Own B w v bs) : ∀ g, v.ownBlock = some g → ∃ c fz, w.heap[g]? = some (.cells c 5 fz) := by
  intro g hg
  rcases h.2 with ⟨rfl, _⟩ | ⟨g', cap, cur, rfl, _, hh, _⟩
  · simp [Value.ownBlock] at hg
  · simp [Value.ownBlock] at hg; subst hg; exact ⟨_, _, hh⟩
theorem Gx.grown {B : Nat} {a w w' : World} {v : Value} {bs : List UInt8} (h : Gx B a w) (hown : Own B w v bs) (hg : w.grownBy w' v.ownBlock) (hB : B ≤ w.heap.size) : Gx B a w' := by
  refine ⟨h.1.grown hg hB (fun k hk => (hown.lt k hk).1), h.2.trans ?_⟩
  intro k o hk hb ho
  have hlt : k < w.heap.size := (Array.getElem?_eq_some_iff.1 hk).1
  rw [hg.block k hlt (fun e => by
    obtain ⟨c, fz, hh⟩ := own_row hown k e.symm
    rw [hk] at hh
    exact ho c fz (by simpa using hh))]
  exact hk
theorem Own.alloc {B : Nat} {w : World} {v : Value} {bs : List UInt8} (h : Own B w v bs) (o : Obj) : Own B (w.alloc o) v bs := World.ownsRow.alloc h o
theorem Own.snoc {B : Nat} {w : World} {v : Value} {bs : List UInt8} {b : UInt8} (h : w.ownsRow B 5 1 v (bs.length + 1) (Lib.byteCells bs ++ [.int .u8 (b.toNat : Int)])) : Own B w v (bs ++ [b]) := by
  unfold Own
  rw [List.length_append, Lib.byteCells_append]
  exact h
theorem dec_len (k : Nat) : ∀ n, n < 10 ^ (k + 1) → (Lib.decDigits n).length ≤ k + 1 := by
  induction k with
  | zero => intro n hn; rw [Lib.decDigits, dif_pos (by simpa using hn)]; simp
  | succ k ih =>
    intro n hn
    rw [Lib.decDigits]
    by_cases h : n < 10
    · rw [dif_pos h]; simp
    · rw [dif_neg h, List.length_append]
      have := ih (n / 10) (by rw [Nat.pow_succ] at hn; omega)
      simp; omega
def numsTo (zs : List Int) : Nat → List UInt8
  | 0 => []
  | k + 1 => numsTo zs k ++ (32 :: Lib.decDigits (iat zs k).toNat)
def small (zs : List Int) : Prop := ∀ i, i < zs.length → 0 ≤ iat zs i ∧ iat zs i ≤ 1048576
theorem numsTo_len {zs : List Int} (h : small zs) (k : Nat) (hk : k ≤ zs.length) : (numsTo zs k).length ≤ 8 * k := by
  induction k with
  | zero => simp [numsTo]
  | succ k ih =>
    have h1 := ih (by omega)
    have h2 : (Lib.decDigits (iat zs k).toNat).length ≤ 7 := dec_len 6 _ (by have := h k (by omega); omega)
    simp only [numsTo, List.length_append, List.length_cons]
    omega
def Tab (B : Nat) (w : World) : Prop := Lib.TabBelow Tryz.prog B w "internal/strconv.uint64pow10" .u64 Lib.pow10Tab
theorem itoa_dec {x : Int} (h : 0 ≤ x) : Lib.itoa x = Lib.decDigits x.toNat := by unfold Lib.itoa; rw [if_neg (by omega)]
theorem appendInt10 (B n : Nat) (i : Int) (h0 : -9223372036854775808 ≤ i) (h1 : i ≤ 9223372036854775807) (sv : Value) (xs : List Value) (w : World) (hown : w.ownsRow B 5 1 sv n xs) (hBw : B ≤ w.heap.size) (hlim : n + 21 ≤ 140737488355328)
    (htab : Lib.TabBelow Tryz.prog B w "internal/strconv.uint64pow10" .u64 Lib.pow10Tab) :
    Calls Tryz.prog 111 #[sv, .int .i64 i, .int .i64 10] w fun e w' => ∃ v', e = .returned v' ∧ w'.ownsRow B 5 1 v' (n + (Lib.itoa i).length) (xs ++ Lib.byteCells (Lib.itoa i)) ∧ RowKit.Below B w w' ∧ Lib.OthersKept 5 none w w' := Any.strconv_AppendInt_10 Tryz.laysAI B n i h0 h1 sv xs w hown hBw hlim htab

set_option maxHeartbeats 1000000 in
/-- the numbers as text, in a row of their own -/
theorem appN_any (vz : Value) (zs : List Int) (w : World) (hz : HInts 0 w vz zs) (hzl : zs.length ≤ 40000) (hsm : small zs) (ht : Tab w.heap.size w) :
    Calls Tryz.prog 72 #[.slice none 0 0, vz] w fun e w' => (∃ v', e = .returned v' ∧ Own w.heap.size w' v' (numsTo zs zs.length)) ∧ Nx w w' := by
  obtain ⟨i0, hi, hz0, hz1, hz2⟩ := info_parts infoByte
  have HZN : Hid (HInts 0 w vz zs) := hz
  have HSM : Hid (small zs) := hsm
  have HT : Hid (Tab w.heap.size w) := ht
  have HNL : Hid (∀ k, k ≤ zs.length → (numsTo zs k).length ≤ 8 * k) := fun k hk => numsTo_len hsm k hk
  obtain ⟨a, cap, rfl, hn, _⟩ := hz
  generalize hzn : zs.length = n at *
  have HZ : Hid (zs.length = n) := hzn
  clear hzn hsm ht
  go_enter Tryz.func72, Tryz.ntmps72
  go_wp2
  go_loopw [0, 6, 9] (fun o x i wr => ∃ k : Nat, k ≤ n ∧ i = .int .i64 k ∧ Hid (Own w.heap.size wr o (numsTo zs k)) ∧ Hid (Gx w.heap.size w wr)) (fun _ _ i _ => n - (intOf i).toNat)
  case atStart => exact ⟨0, Nat.zero_le _, rfl, ⟨rfl, Or.inl ⟨rfl, rfl⟩⟩, Gx.refl _ _⟩
  case round =>
    obtain ⟨k, hkn, rfl, HO, HG⟩ := hrel
    have HB : Hid (w.heap.size ≤ wr.heap.size) := HG.out.1.size
    have HLL : Hid ((numsTo zs k).length ≤ 320000) := by have := HNL.out k hkn; unfold Hid; omega
    by_cases hlt : k < n
    · obtain ⟨a', cap', e', _, hk'⟩ := HZN.out.next (show Nx w wr from HG.out.1)
      simp at e'
      obtain ⟨ea, en, ec⟩ := e'
      clear en
      obtain ⟨b, off, hab, _, hb, hc⟩ := hk' (by rw [HZ.out]; omega)
      have hcc := hc k (by rw [HZ.out]; exact hlt)
      rw [← ea] at hab
      subst hab
      clear hc hk' ea ec
      have hlt' : (k : Int) < n := by omega
      have hv := HSM.out k (by rw [HZ.out]; exact hlt)
      go_wp2_with (at_builtin; refine wpList_append_own _ rfl _ _ 130 rfl w.heap.size 5 i0 (.int .u8 0) 1 1 Tryz.underlying130 hi hz0 hz1 hz2 rfl (by decide) _ _ _ rfl (HO.out.alloc _) ⟨wr.heap.size, 0, none⟩ 1 1 [Value.int .u8 ((32 : UInt8).toNat : Int)] rfl rfl ?c1 ?c2 ?c3 ?c4 ?c5 ?_)
      case c1 =>
        intro j u hj
        match j, hj with
        | 0, hj => simp at hj; subst hj; simp [Addr.add]
      case c2 => intro u hu; simp at hu; subst hu; rfl
      case c3 => have := HLL.out; unfold maxLen; omega
      case c4 => have := HLL.out; omega
      case c5 => have := HB.out; simp; omega
      · intro v1 w1 hown' hgrow _
        have HO1 : Hid (Own w.heap.size w1 v1 (numsTo zs k ++ [32])) := Own.snoc (by simpa using hown')
        have HG1 : Hid (Gx w.heap.size w w1) := (HG.out.alloc HB.out _).grown (HO.out.alloc _) hgrow (by have := HB.out; simp; omega)
        have HB1 : Hid (w.heap.size ≤ w1.heap.size) := HG1.out.1.size
        clear hown' hgrow
        go_wp2_with fail
        refine (appendInt10 w.heap.size _ _ (by omega) (by omega) _ _ _ HO1.out HB1.out (by have := HLL.out; simp only [List.length_append, List.length_cons, List.length_nil] at this ⊢; omega) (HT.out.on HG1.out.1)).mono ?_
        rintro e w2 ⟨v2, rfl, ho, hbl, hok⟩
        have HO2 : Hid (Own w.heap.size w2 v2 (numsTo zs (k + 1))) := by
          unfold Hid Own
          rw [itoa_dec hv.1, ← Lib.byteCells_append, ← List.length_append] at ho
          simp only [List.append_assoc, List.cons_append, List.nil_append] at ho
          exact ho
        have HG2 : Hid (Gx w.heap.size w w2) := HG1.out.trans ⟨hbl, hok⟩
        clear ho hbl hok
        go_wp2
        go_roundw
        case rel => exact ⟨k + 1, by omega, by go_num, HO2, HG2⟩
        case measure => simp [intOf]; omega
    · have ek : n = k := by omega
      subst ek
      go_wp2
      go_ret
      exact ⟨⟨_, rfl, HO.out⟩, HG.out.1⟩
end Go.Proofs.YtcdjmpbdaiafgaaGreatDoor

namespace Go.Proofs.YtcdjmpbdaiafgaaGreatDoor
open Go.RowKit Go.Sort Go.Maps Go.Shelf
set_option linter.unusedVariables false
set_option maxRecDepth 100000

-- a row of bytes as a string
theorem Own.conv {B : Nat} {w : World} {v : Value} {bs : List UInt8} (h : Own B w v bs) : (convert 130 9 v).run Tryz.prog w = .ok (.string ⟨bs.toArray⟩) w := by
  obtain ⟨h1, h2⟩ := h
  rcases h2 with ⟨rfl, h3⟩ | ⟨g, cap, cur, rfl, hg, hh, hc, hm, hs, ht⟩
  · have e : bs = [] := List.length_eq_zero_iff.1 h3
    subst e
    exact run_convert_bytes_nil (P := Tryz.prog) w 130 5 Tryz.underlying130 Tryz.underlying5 0 0 9 Tryz.underlying9
  · refine run_convert_bytes_back (P := Tryz.prog) w 130 9 5 ⟨g, 0, none⟩ cap bs Tryz.underlying130 Tryz.underlying5 Tryz.underlying9 (fun j hj => ?_)
    rw [add_at, Nat.zero_add]
    have e1 : (cur.toList.take (bs.length * 1))[j]? = (Lib.byteCells bs)[j]? := by rw [ht]
    rw [List.getElem?_take_of_lt (by omega), Array.getElem?_toList] at e1
    simp only [World.cell?, hh, e1, Lib.byteCells, List.getElem?_map, List.getElem?_eq_getElem hj]
    rfl
-- texts of numbers tell the numbers
def txt (l : List Nat) : List UInt8 := l.flatMap fun n => 32 :: Lib.decDigits n
theorem numsTo_txt (l : List Nat) : ∀ k, k ≤ l.length → numsTo (nums l) k = txt (l.take k)
  | 0, _ => by simp [numsTo, txt]
  | k + 1, hk => by
    have hlt : k < l.length := by omega
    unfold numsTo
    rw [numsTo_txt l k (by omega), List.take_succ_eq_append_getElem hlt]
    unfold txt
    rw [List.flatMap_append]
    simp [iat, nums, List.getD_eq_getElem?_getD, hlt]
theorem dec_digit (n : Nat) : ∀ x ∈ Lib.decDigits n, x ≠ 32 := by
  induction n using Nat.strongRecOn with
  | ind n ih =>
    intro x hx
    rw [Lib.decDigits] at hx
    by_cases h : n < 10
    · rw [dif_pos h] at hx
      have : x = UInt8.ofNat (48 + n) := by simpa using hx
      subst this
      intro e
      have := congrArg UInt8.toNat e
      simp at this
      omega
    · rw [dif_neg h] at hx
      rcases List.mem_append.1 hx with g | g
      · exact ih (n / 10) (by omega) x g
      · have : x = UInt8.ofNat (48 + n % 10) := by simpa using g
        subst this
        intro e
        have := congrArg UInt8.toNat e
        simp at this
        omega
theorem dec_ne (n : Nat) : Lib.decDigits n ≠ [] := by
  rw [Lib.decDigits]
  split <;> simp
theorem dig_inj {a b : Nat} (ha : a < 10) (hb : b < 10) (h : UInt8.ofNat (48 + a) = UInt8.ofNat (48 + b)) : a = b := by
  have := congrArg UInt8.toNat h
  simp at this
  omega
theorem dec_lt {n : Nat} (h : n < 10) : Lib.decDigits n = [UInt8.ofNat (48 + n)] := by rw [Lib.decDigits, dif_pos h]
theorem dec_ge {n : Nat} (h : ¬ n < 10) : Lib.decDigits n = Lib.decDigits (n / 10) ++ [UInt8.ofNat (48 + n % 10)] := by rw [Lib.decDigits, dif_neg h]
theorem dec_inj : ∀ (n m : Nat), Lib.decDigits n = Lib.decDigits m → n = m := by
  intro n
  induction n using Nat.strongRecOn with
  | ind n ih =>
    intro m h
    by_cases hn : n < 10
    · rw [dec_lt hn] at h
      by_cases hm : m < 10
      · rw [dec_lt hm] at h
        exact dig_inj hn hm (by simpa using h)
      · rw [dec_ge hm] at h
        have := congrArg List.length h
        have hp : 0 < (Lib.decDigits (m / 10)).length := List.length_pos_iff.2 (dec_ne _)
        simp only [List.length_append, List.length_cons, List.length_nil] at this
        omega
    · rw [dec_ge hn] at h
      by_cases hm : m < 10
      · rw [dec_lt hm] at h
        have := congrArg List.length h
        have hp : 0 < (Lib.decDigits (n / 10)).length := List.length_pos_iff.2 (dec_ne _)
        simp only [List.length_append, List.length_cons, List.length_nil] at this
        omega
      · rw [dec_ge hm] at h
        obtain ⟨h1, h2⟩ := List.append_inj' h rfl
        have e1 := ih (n / 10) (by omega) (m / 10) h1
        have e2 := dig_inj (Nat.mod_lt n (by omega)) (Nat.mod_lt m (by omega)) (by simpa using h2)
        omega
theorem txt_head (l : List Nat) : ∀ x, (txt l).head? = some x → x = 32 := by
  intro x hx
  cases l with
  | nil => simp [txt] at hx
  | cons a l => simp [txt] at hx; exact hx.symm
theorem take_dec (n : Nat) (r : List UInt8) (hr : ∀ x, r.head? = some x → x = 32) : (Lib.decDigits n ++ r).takeWhile (· != 32) = Lib.decDigits n := by
  rw [List.takeWhile_append_of_pos (fun x hx => by simpa using dec_digit n x hx)]
  cases r with
  | nil => simp
  | cons x r =>
    have := hr x rfl
    subst this
    simp
theorem txt_inj : ∀ (l m : List Nat), txt l = txt m → l = m
  | [], [], _ => rfl
  | [], b :: m, h => by simp [txt] at h
  | a :: l, [], h => by simp [txt] at h
  | a :: l, b :: m, h => by
    have h' : Lib.decDigits a ++ txt l = Lib.decDigits b ++ txt m := by
      have : (32 :: (Lib.decDigits a ++ txt l) : List UInt8) = 32 :: (Lib.decDigits b ++ txt m) := by simpa [txt] using h
      simpa using this
    have e1 : Lib.decDigits a = Lib.decDigits b := by
      rw [← take_dec a (txt l) (txt_head l), ← take_dec b (txt m) (txt_head m), h']
    have e2 : txt l = txt m := by
      rw [e1] at h'
      exact List.append_cancel_left h'
    rw [dec_inj a b e1, txt_inj l m e2]
-- the rules that have been made, by name
def RN : Nat := 133
theorem laidOut : laidOutB Tryz.prog = true := by kernel_rfl
theorem rn_row : (133 : TypeId) < Tryz.prog.types.size := of_decide_eq_true (by kernel_rfl)
theorem rn_wide : (match Tryz.prog.underlying 133 with | some (.array _ _) | some (.struct _) => true | _ => false) = true := by rw [Tryz.underlying133]
theorem rn_law : WideMaps.KeyLaw Tryz.prog 133 := deep_law_laid laidOut (m := 3) (by omega) rn_row (by kernel_rfl) rn_wide
def rkey (b : Bool) (bs : List UInt8) : Value := .agg #[.bool b, .string ⟨bs.toArray⟩]
theorem rkey_inj {b c : Bool} {x y : List UInt8} (h : rkey b x = rkey c y) : b = c ∧ x = y := by
  unfold rkey at h
  simpa using h
theorem rkey_ok (b : Bool) (bs : List UInt8) (hs : bs.length ≤ 1000000) : ∃ l, keyOf Tryz.prog 133 (rkey b bs) = some l := by
  have hk : Tryz.prog.keyType 133 = true := by kernel_rfl
  have hc : Tryz.prog.cellsOf 133 = 2 := by kernel_rfl
  have hc1 : Tryz.prog.cellsOf 4 = 1 := by kernel_rfl
  have hc2 : Tryz.prog.cellsOf 9 = 1 := by kernel_rfl
  have hf : (rkey b bs).formed Tryz.prog 133 = true := by simp [rkey, Value.formed, Tryz.underlying133, hc]
  have hsz : (⟨bs.toArray⟩ : ByteArray).size ≤ maxLen := by
    show bs.toArray.size ≤ maxLen
    simp [maxLen]
    omega
  unfold keyOf
  rw [Tryz.underlying133]
  simp only [hk, hf, Bool.and_self, if_true]
  have hts : 0 < Tryz.prog.types.size := Nat.lt_of_le_of_lt (Nat.zero_le _) rn_row
  obtain ⟨n, hn⟩ : ∃ n, Tryz.prog.types.size = n + 1 := ⟨Tryz.prog.types.size - 1, by omega⟩
  have k1 : Tryz.prog.keyLits (n + 1) 4 [.bool b] = some [.bool b] := by simp [Program.keyLits, Tryz.underlying4]
  have k2 : Tryz.prog.keyLits (n + 1) 9 [.string ⟨bs.toArray⟩] = some [.string bs] := by simp [Program.keyLits, Tryz.underlying9, hsz]
  rw [hn]
  unfold Program.keyLits
  rw [Tryz.underlying133]
  refine ⟨.string (keyBytes [.bool b, .string bs]), ?_⟩
  simp [rkey, Value.cells, hc, hc1, hc2, k1, k2]
-- the map of what has been made: its keys, in the order in which they came
def MadeM (w : World) (b : Nat) (ks : List Value) : Prop := ∃ es clock, w.heap[b]? = some (.map es clock) ∧ es.toList.map (·.key) = ks ∧ ks.length ≤ 1000 ∧ ∀ k ∈ ks, ∃ l, keyOf Tryz.prog 133 k = some l
theorem MadeM.new (w : World) (n : Nat) (hn : n = w.heap.size) : MadeM (w.alloc (.map #[] 0)) n [] := by
  subst hn
  exact ⟨#[], 0, by show (w.heap.push _)[w.heap.size]? = _; simp, rfl, by simp, fun k hk => by simp at hk⟩
theorem MadeM.ck {X K : Nat → Prop} {A B : World} {b : Nat} {ks : List Value} (h : MadeM A b ks) (c : Ck X K A B) (hx : ¬ X b) : MadeM B b ks := by
  obtain ⟨es, clock, h1, r⟩ := h
  exact ⟨es, clock, c.block b _ h1 hx (Or.inr rfl), r⟩
theorem MadeM.lt {w : World} {b : Nat} {ks : List Value} (h : MadeM w b ks) : b < w.heap.size := by
  obtain ⟨es, clock, h1, r⟩ := h
  exact (Array.getElem?_eq_some_iff.1 h1).1
theorem MadeM.look {w : World} {b : Nat} {ks : List Value} (h : MadeM w b ks) {key : Value} {l : Lit} (hkey : keyOf Tryz.prog 133 key = some l) : ∃ v bb, (Instr.lookup 124 (.map (some b)) key true).run Tryz.prog w = .ok (.tuple #[v, .bool bb]) w ∧ (bb = true ↔ key ∈ ks) := by
  obtain ⟨es, clock, hb, rfl, hl, hk⟩ := h
  have hz : (zeroValue 2).run Tryz.prog w = .ok (.int .i64 0) w := by kernel_rfl
  rcases rn_law.find w hkey es.toList (fun e he => hk e.key (List.mem_map.2 ⟨e, he, rfl⟩)) with ⟨h1, h2⟩ | ⟨j, e0, h1, h2, h3⟩
  · refine ⟨.int .i64 0, false, by simp [Instr.lookup, run_underlying Tryz.underlying124, MapKept.run_getObj_map hb, rn_law.check w _ hkey, h1, hz, Result.andThen], ?_⟩
    constructor
    · intro e; cases e
    · intro hm
      obtain ⟨x, hx, rfl⟩ := List.mem_map.1 hm
      exact absurd rfl (h2 x hx)
  · refine ⟨e0.val, true, by simp [Instr.lookup, run_underlying Tryz.underlying124, MapKept.run_getObj_map hb, rn_law.check w _ hkey, h1, Result.andThen], ?_⟩
    exact ⟨fun _ => List.mem_map.2 ⟨e0, List.mem_of_getElem? h2, h3⟩, fun _ => rfl⟩
theorem MadeM.put {w : World} {b : Nat} {ks : List Value} (h : MadeM w b ks) {key val : Value} {l : Lit} (hkey : keyOf Tryz.prog 133 key = some l) (hno : key ∉ ks) (hn : ks.length < 1000) : ∃ w', (Instr.mapUpdate 124 (.map (some b)) key val).run Tryz.prog w = .ok () w' ∧ MadeM w' b (ks ++ [key]) ∧ Chg (fun x => x = b) w w' := by
  obtain ⟨es, clock, hb, rfl, hl, hk⟩ := h
  rcases rn_law.find w hkey es.toList (fun e he => hk e.key (List.mem_map.2 ⟨e, he, rfl⟩)) with ⟨h1, h2⟩ | ⟨j, e0, h1, h2, h3⟩
  · refine ⟨ChangeMaps.setBlock w b (.map (es.push ⟨key, val, clock⟩) (clock + 1)), by simp [Instr.mapUpdate, run_underlying Tryz.underlying124, MapKept.run_getObj_map hb, rn_law.check w false hkey, h1, MapKept.run_setObj_map _ hb, Result.andThen, ChangeMaps.setBlock], ⟨_, _, ChangeMaps.heap_setBlock_same hb _, by simp, by simp at hn ⊢; omega, fun k hm => ?_⟩, ⟨rfl, rfl, rfl, by simp [ChangeMaps.setBlock], fun i _ hi => ChangeMaps.heap_setBlock_other hb _ hi⟩⟩
    rcases List.mem_append.1 hm with g | g
    · exact hk k g
    · have : k = key := by simpa using g
      subst this
      exact ⟨l, hkey⟩
  · exact absurd (List.mem_map.2 ⟨e0, List.mem_of_getElem? h2, h3⟩) hno
end Go.Proofs.YtcdjmpbdaiafgaaGreatDoor

namespace Go.Proofs.YtcdjmpbdaiafgaaGreatDoor
open Go.RowKit Go.Sort Go.Maps Go.Shelf
set_option linter.unusedVariables false
set_option maxRecDepth 100000

theorem chains_gives {C : Nat} {N : Nt} {L : Lk} {wR : World} {r : Rl} {vw : Value} {b2 b3 b5 b6 : Nat} (hv : implValid N = true) (hR : LR C N (E1 N) N.ways.length (E1 N).length (E1 N).length (E1 N).length N.ways.length wR L) (hg : RelG N r) (hcp : CapOk vw) : Gives Tryz.prog 105 #[.pointer (some ⟨b2, 0, none⟩), .pointer (some ⟨b3, 0, none⟩), .pointer (some ⟨b5, 0, none⟩), .pointer (some ⟨b6, 0, none⟩)] (PyC (chP N r)) wR.heap.size (chP N r).length (InvC N L wR r vw b2 b3 b5 b6) :=
  fun X l m J Jx W hX hInv hJ hJx hY h0 => chains1_in C wR.heap.size N L wR r vw b2 b3 b5 b6 hv hR (Nat.le_refl _) hg hcp X l m J Jx W hX hInv hJ hJx hY h0
/-- relations in memory, their rows of ways with room for what they hold -/
def HRelsC (w : World) (v : Value) (xs : List Rl) : Prop :=
  HSlice 0 w v xs.length fun b off i => ∃ vw, w.cell? ⟨b, off + i * 7, none⟩ = some (.int .i64 (rat xs i).id) ∧ w.cell? ⟨b, off + i * 7 + 1, none⟩ = some (.bool (rat xs i).only) ∧ w.cell? ⟨b, off + i * 7 + 2, none⟩ = some (.int .i64 (rat xs i).frm) ∧ w.cell? ⟨b, off + i * 7 + 3, none⟩ = some (.int .i64 (rat xs i).to) ∧
    w.cell? ⟨b, off + i * 7 + 4, none⟩ = some (.bool (rat xs i).via) ∧ w.cell? ⟨b, off + i * 7 + 5, none⟩ = some (.int .i64 (rat xs i).node) ∧ w.cell? ⟨b, off + i * 7 + 6, none⟩ = some vw ∧ HInts 0 w vw (rat xs i).ways ∧ CapOk vw
theorem HRelsC.next {w w' : World} {v : Value} {xs : List Rl} (h : HRelsC w v xs) (k : Nx w w') : HRelsC w' v xs :=
  HSlice.mono h (Nat.le_refl _) k.size fun b off hb hs i hi hc => by
    obtain ⟨vw, h0, h1, h2, h3, h4, h5, h6, h7, h8⟩ := hc
    exact ⟨vw, cellq k h0, cellq k h1, cellq k h2, cellq k h3, cellq k h4, cellq k h5, cellq k h6, h7.next k, h8⟩
/-- an own row of rules, their lists apart from one another -/
def OwnX (C : Nat) (w : World) (v : Value) (xs : List Ru) : Prop :=
  ∃ vs : List Value, vs.length = xs.length ∧ w.ownsRow C 100 3 v xs.length (rcells xs vs) ∧ (∀ i, i < xs.length → OwnI C w (vat vs i) (ruat xs i).seq) ∧ ∀ i j g, i < j → j < xs.length → (vat vs i).ownBlock = some g → (vat vs j).ownBlock ≠ some g
theorem OwnX.next {C : Nat} {w w' : World} {v : Value} {xs : List Ru} (h : OwnX C w v xs) (k : Nx w w') : OwnX C w' v xs := by
  obtain ⟨vs, h1, h2, h3, h4⟩ := h
  exact ⟨vs, h1, row_next h2 k, fun i hi => (h3 i hi).next k, h4⟩
/-- the table of powers lies in w -/
def TabW (w : World) : Prop := Lib.TabIs Tryz.prog w "internal/strconv.uint64pow10" .u64 Lib.pow10Tab
theorem TabW.tab {w : World} (h : TabW w) : Tab w.heap.size w := Lib.tabBelow_of_tabIs h
theorem TabW.next {w w' : World} (h : TabW w) (k : Nx w w') : TabW w' := (h.tab).on k |>.here
theorem mkRn (w : World) (n : Int) : (Instr.makeMap 124 (some (.int .i64 n))).run Tryz.prog w = .ok (.map (some w.heap.size)) (w.alloc (.map #[] 0)) := by
  simp [Instr.makeMap, asInt, go_sem]
theorem OwnX.slice {C : Nat} {w : World} {v : Value} {xs : List Ru} (h : OwnX C w v xs) : ∃ a c, v = .slice a xs.length c := by
  obtain ⟨vs, _, h2, _⟩ := h
  exact row_slice h2
/-- the keys of the rules -/
def rk (x : Ru) : Value := rkey x.only (numsTo x.seq x.seq.length)

theorem OwnX.chg {S : Nat → Prop} {C : Nat} {w w' : World} {v : Value} {xs : List Ru} (h : OwnX C w v xs) (c : Chg S w w') (hr : ∀ g, v.ownBlock = some g → ¬ S g) (hi : ∀ u zs g, OwnI C w u zs → u.ownBlock = some g → ¬ S g) : OwnX C w' v xs := by
  obtain ⟨vs, h1, h2, h3, h4⟩ := h
  exact ⟨vs, h1, row_chg h2 c hr, fun i hlt => row_chg (h3 i hlt) c (fun g hg => hi _ _ g (h3 i hlt) hg), h4⟩
theorem OwnX.low {S : Nat → Prop} {C : Nat} {w w' : World} {v : Value} {xs : List Ru} (h : OwnX C w v xs) (c : Chg S w w') (hS : ∀ b, S b → b < C) : OwnX C w' v xs := by
  refine h.chg c (fun g hg x => ?_) (fun u zs g hu hg x => ?_)
  · obtain ⟨vs, h1, h2, h3, h4⟩ := h
    have := (own_lt h2 g hg).1
    have := hS g x
    omega
  · have := (own_lt hu g hg).1
    have := hS g x
    omega
theorem row_low' {S : Nat → Prop} {C t sz n : Nat} {w w' : World} {v : Value} {xs : List Value} (h : w.ownsRow C t sz v n xs) (c : Chg S w w') (hS : ∀ b, S b → b < C) : w'.ownsRow C t sz v n xs := row_chg h c (fun g hg x => by have := (own_lt h g hg).1; have := hS g x; omega)
theorem OwnX.base {C C' : Nat} {w : World} {v : Value} {xs : List Ru} (h : OwnX C w v xs) (hC : C' ≤ C) : OwnX C' w v xs := by
  obtain ⟨vs, h1, h2, h3, h4⟩ := h
  exact ⟨vs, h1, row_base h2 hC, fun i hi => (h3 i hi).base hC, h4⟩
/-- drops grow: the rules stand -/
theorem OwnX.drops {C : Nat} {w w7 : World} {v vd : Value} {xs : List Ru} {ds : List Dp} {o : Obj} (h : OwnX C w v xs) (hd : OwnD C w vd ds) (hg : (w.alloc o).grownBy w7 vd.ownBlock) : OwnX C w7 v xs := by
  have h' := h.next (box1 w o)
  have hd' := OwnD.next hd (box1 w o)
  have c : Chg (fun x => some x = vd.ownBlock) (w.alloc o) w7 := Chg.grown hg (fun _ e => e)
  refine h'.chg c (fun g hg' x => ?_) (fun u zs g hu hg' x => ?_)
  · obtain ⟨vs, h1, h2, h3, h4⟩ := h'
    rcases own_ne h2 hd' (by decide) with e | e
    · rw [e] at hg'; cases hg'
    · exact e (hg'.trans x)
  · rcases own_ne hu hd' (by decide) with e | e
    · rw [e] at hg'; cases hg'
    · exact e (hg'.trans x)
theorem OwnX.snoc {C : Nat} {w w' : World} {v v' u : Value} {xs : List Ru} {x : Ru} {vs : List Value} (h0 : vs.length = xs.length) (h1 : w.ownsRow C 100 3 v xs.length (rcells xs vs)) (h2 : ∀ i, i < xs.length → OwnI C w (vat vs i) (ruat xs i).seq) (hap : ∀ i j g, i < j → j < xs.length → (vat vs i).ownBlock = some g → (vat vs j).ownBlock ≠ some g)
    (hu : OwnI C w u x.seq) (hnew : ∀ i g, i < xs.length → (vat vs i).ownBlock = some g → u.ownBlock ≠ some g) (ho : Obj) (hg : (w.alloc ho).grownBy w' v.ownBlock) (hn : w'.ownsRow C 100 3 v' (xs.length + 1) (rcells xs vs ++ [.int .i64 x.rel, .bool x.only, u])) : OwnX C w' v' (xs ++ [x]) := by
  have kept : ∀ {z : Value} {zs : List Int}, OwnI C w z zs → OwnI C w' z zs := fun {z zs} hz => World.ownsRow.kept (World.ownsRow.alloc hz ho) hg (own_ne hz h1 (by decide))
  have va : ∀ i, i < xs.length → vat (vs ++ [u]) i = vat vs i := fun i hi => by simp [vat, List.getD, List.getElem?_append_left (show i < vs.length by omega)]
  have vb : vat (vs ++ [u]) xs.length = u := by rw [← h0]; simp [vat, List.getD]
  refine ⟨vs ++ [u], by simp [h0], by rw [List.length_append, rcells_snoc h0]; exact hn, fun i hi => ?_, fun i j g hij hj e => ?_⟩
  · rw [List.length_append, List.length_singleton] at hi
    by_cases e : i < xs.length
    · rw [ruat_snoc e, va i e]
      exact kept (h2 i e)
    · have e' : i = xs.length := by omega
      rw [ruat_end e', e', vb]
      exact kept hu
  · rw [List.length_append, List.length_singleton] at hj
    rw [va i (by omega)] at e
    by_cases q : j < xs.length
    · rw [va j q]
      exact hap i j g hij q e
    · have e' : j = xs.length := by omega
      rw [e', vb]
      exact hnew i g (by omega) e
theorem resTo_nums {ch : Rl → List (List Nat)} {rels : List Rl} : ∀ k, ∀ x ∈ (resTo ch rels k).rules, ∃ l : List Nat, x.seq = nums l
  | 0, x, hx => by simp [resTo] at hx
  | k + 1, x, hx => by
    have hx' : x ∈ (resStep (resTo ch rels k) (rat rels k) (ch (rat rels k))).rules := hx
    unfold resStep at hx'
    split at hx'
    · rcases List.mem_append.1 hx' with g | g
      · exact resTo_nums k x g
      · have := List.mem_singleton.1 g
        exact ⟨lsat (ch (rat rels k)) 0, by rw [this]⟩
    · exact resTo_nums k x hx'
theorem nums_inj {l m : List Nat} (h : nums l = nums m) : l = m := by
  have := congrArg (List.map Int.toNat) h
  simpa [nums, Function.comp_def] using this
theorem rk_nums (x : Ru) (l : List Nat) (h : x.seq = nums l) : rk x = rkey x.only (txt l) := by
  unfold rk
  rw [h, nums_len, numsTo_txt l l.length (Nat.le_refl _), List.take_length]
/-- the key is there iff such a rule is -/
theorem rk_mem {rules : List Ru} (hn : ∀ x ∈ rules, ∃ l : List Nat, x.seq = nums l) (only : Bool) (l : List Nat) : rkey only (txt l) ∈ rules.map rk ↔ rpt rules only (nums l) = true := by
  unfold rpt
  rw [List.mem_map, List.any_eq_true]
  constructor
  · rintro ⟨x, hx, e⟩
    obtain ⟨m, hm⟩ := hn x hx
    rw [rk_nums x m hm] at e
    obtain ⟨e1, e2⟩ := rkey_inj e
    refine ⟨x, hx, ?_⟩
    rw [hm, txt_inj m l e2, e1]
    simp
  · rintro ⟨x, hx, e⟩
    simp only [Bool.and_eq_true, beq_iff_eq, decide_eq_true_eq] at e
    refine ⟨x, hx, ?_⟩
    rw [rk_nums x l e.2, e.1]
/-- a chain's edges are edges, and it isn't long -/
theorem chP_ok {N : Nt} {r : Rl} (hv : implValid N = true) (hg : RelG N r) : ∀ l ∈ chP N r, l.length ≤ 16002 ∧ ∀ e ∈ l, e < 4000 := by
  intro l hl
  unfold chP chainS at hl
  obtain ⟨m, hm, hl⟩ := List.mem_flatMap.1 hl
  obtain ⟨a, ha, hl⟩ := List.mem_flatMap.1 hl
  obtain ⟨b, hb, rfl⟩ := List.mem_map.1 hl
  have hle := E1_le' hv
  have ha' : a < 4000 := Nat.lt_of_lt_of_le (ofTo_lt (List.mem_filter.1 ha).1) hle
  have hb' : b < 4000 := Nat.lt_of_lt_of_le (ofTo_lt (List.mem_filter.1 hb).1) hle
  have hm' : m.l.length ≤ 16000 ∧ ∀ e ∈ m.l, e < 4000 := by
    unfold midS at hm
    cases hvia : r.via
    · rw [hvia] at hm
      simp only [Bool.false_eq_true, if_false] at hm
      obtain ⟨x, hx, rfl⟩ := List.mem_map.1 hm
      have h4 := hg.one hvia
      have h1 := midL_good hv hg hvia (r.ways.length - 1) (by omega) x hx
      exact ⟨by simp only [sxOf]; omega, fun e he => Nat.lt_of_lt_of_le (h1.1.2.2 e he) hle⟩
    · rw [hvia] at hm
      simp only [if_true] at hm
      have := List.mem_singleton.1 hm
      subst this
      simp
  refine ⟨by simp; omega, fun e he => ?_⟩
  simp only [List.cons_append, List.nil_append, List.mem_cons, List.mem_append, List.not_mem_nil, or_false] at he
  rcases he with rfl | he | rfl
  · exact ha'
  · exact hm'.2 e he
  · exact hb'
theorem Own.next {B : Nat} {w w' : World} {v : Value} {bs : List UInt8} (h : Own B w v bs) (k : Nx w w') : Own B w' v bs := row_next h k
theorem small_nums {l : List Nat} (h : ∀ e ∈ l, e < 4000) : small (nums l) := fun i hi => by
  have hi' : i < l.length := by simpa [nums] using hi
  rw [iat_nums hi']
  have : natat l i ∈ l := by simp [natat, List.getD_eq_getElem?_getD, hi']
  have := h _ this
  omega
theorem txt_len {l : List Nat} (h1 : l.length ≤ 16002) (h2 : ∀ e ∈ l, e < 4000) : (txt l).length ≤ 1000000 := by
  have key : ∀ l : List Nat, (∀ e ∈ l, e < 4000) → (txt l).length ≤ 5 * l.length := by
    intro l
    induction l with
    | nil => intro _; simp [txt]
    | cons a l ih =>
      intro h
      have h3 := ih (fun e he => h e (List.mem_cons_of_mem _ he))
      have h4 : (Lib.decDigits a).length ≤ 4 := dec_len 3 a (by have := h a (List.mem_cons_self ..); omega)
      have e : txt (a :: l) = (32 :: Lib.decDigits a) ++ txt l := by simp [txt]
      rw [e, List.length_append, List.length_cons, List.length_cons]
      omega
  have := key l h2
  omega
theorem nx_young {S : Nat → Prop} {w A B : World} (h : Nx w A) (c : Chg S A B) (hS : ∀ b, S b → w.heap.size ≤ b) : Nx w B :=
  ⟨c.os.trans h.os, c.tape.trans h.tape, c.output.trans h.output, Nat.le_trans h.size c.size, fun b hb => (c.block b (Nat.lt_of_lt_of_le hb h.size) (fun x => by have := hS b x; omega)).trans (h.block b hb)⟩
theorem lsat_one {cs : List (List Nat)} (h : cs.length = 1) : lsat cs 0 ∈ cs := by
  match cs, h with
  | [x], _ => simp [lsat]
end Go.Proofs.YtcdjmpbdaiafgaaGreatDoor
