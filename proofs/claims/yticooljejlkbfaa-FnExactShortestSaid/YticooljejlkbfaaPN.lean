import Derived.Test.YticooljejlkbfaaPM
namespace Go.Proofs.Yticooljejlkbfaa
open Go.RowKit Go.Sort Go.Maps
set_option linter.unusedVariables false
set_option maxRecDepth 100000

def better (K : Nat → Rk) (v : Nat) (r : Rk) : Prop := K v = (0, 0) ∨ rlt r (K v)
/-- the blocks that a reach may turn -/
def sbl (q mb rb : Nat) (iv : Value) : List Nat := rb :: hbl q mb iv
/-- behind a reach -/
structure RC (C : Nat) (w w' : World) (sb p q mb rb n : Nat) (gv : List Value) (t : Int) (b : Rk) (iv sv : Value) (K : Nat → Rk) (L S : List Nat) (v : Nat) (r : Rk) (iv' : Value) (K' : Nat → Rk) (L' : List Nat) (D' : DM) : Prop where
  s : SR C w' sb p q mb rb n gv t b iv' sv K' L' D' S
  y : better K v r → K' v = r ∧ (∀ y, y ≠ v → K' y = K y) ∧ ∀ y, y ∈ L' ↔ y ∈ L ∨ y = v
  n : ¬ better K v r → K' = K ∧ L' = L
  b : ∀ g, iv'.ownBlock = some g → iv.ownBlock = some g ∨ w.heap.size ≤ g
  on : OnS (sbl q mb rb iv) w w'
theorem SR.reached {C : Nat} {w w1 w2 : World} {sb p q mb rb n : Nat} {gv : List Value} {t : Int} {b : Rk} {iv sv : Value} {K K' : Nat → Rk} {L : List Nat} {D : DM} {S : List Nat} {v : Nat} {iv' : Value} {L' : List Nat} {D' : DM} (h : SR C w sb p q mb rb n gv t b iv sv K L D S) (h1 : OnS [rb] w w1) (hk : RKM w1 rb n K') (h2 : PT C w1 w2 q sb mb iv K' n L v iv' L' D') : SR C w2 sb p q mb rb n gv t b iv' sv K' L' D' S := by
  obtain ⟨⟨a1, a2, a3⟩, ⟨b1, b2, b3⟩, hs⟩ := h.sep
  have hd := fun g e => hs g e
  have e0 : ∀ x, x < w.heap.size → x ≠ rb → x ∉ hbl q mb iv → w2.heap[x]? = w.heap[x]? := fun x hx n1 n2 => (h2.on.block x (Nat.lt_of_lt_of_le hx h1.size) n2).trans (h1.block x hx (by simpa using n1))
  refine ⟨(e0 sb (Array.getElem?_eq_some_iff.1 h.x).1 b2 a1).trans h.x, h.s.kept (e0 p h.s.lt b3 a2), hk.kept (h2.on.block rb hk.lt a3), h2.h, h.d.kept (fun g e => e0 g (h.d.blk e).2.1 (hd g e).2.2.1 (hd g e).2.2.2), fun g e e' => ?_, h.cb⟩
  rcases h2.b g e' with q1 | q1
  · exact h.ap g e q1
  · have := (h.d.blk e).2.1
    have := h1.size
    omega

set_option maxHeartbeats 8000000 in
theorem reach_any (C sb p q mb rb n : Nat) (gv : List Value) (t : Int) (b : Rk) (iv sv : Value) (K : Nat → Rk) (L : List Nat) (D : DM) (S : List Nat) (v : Nat) (r : Rk) (w : World) (h : SR C w sb p q mb rb n gv t b iv sv K L D S) (hv : v < n) (hn : n ≤ 6000) (hz : v ∈ L → K v ≠ (0, 0)) (hC : C ≤ w.heap.size) :
    Calls Try.prog 52 #[.pointer (some ⟨p, 0, none⟩), .int .i64 (v : Int), .agg #[.int .i64 r.1, .int .i64 r.2]] w fun e w' => ∃ x iv' K' L' D', e = .returned x ∧ RC C w w' sb p q mb rb n gv t b iv sv K L S v r iv' K' L' D' := by
  have H : Hid (SR C w sb p q mb rb n gv t b iv sv K L D S) := h
  have HX0 : Hid (Nx w (w.alloc (.cells #[.int .i64 r.1, .int .i64 r.2] 56))) := box1 _ _
  have hbx := Blk.new w #[.int .i64 r.1, .int .i64 r.2] 56 _ rfl
  have HBX : Hid (Blk (w.alloc (.cells #[.int .i64 r.1, .int .i64 r.2] 56)) w.heap.size #[.int .i64 r.1, .int .i64 r.2]) := hbx
  have H1 : Hid (SR C (w.alloc (.cells #[.int .i64 r.1, .int .i64 r.2] 56)) sb p q mb rb n gv t b iv sv K L D S) := h.next HX0.out
  have hv0 : (v : Int) < n := by omega
  have HZ : Hid (v ∈ L → K v ≠ (0, 0)) := hz
  have HC : Hid (C ≤ w.heap.size) := hC
  have HV : Hid (v < n) := hv
  have CG : Hid (∀ W d os, Calls Try.prog 51 #[.agg #[.int .i64 r.1, .int .i64 r.2], .agg #[.int .i64 (K v).1, .int .i64 (K v).2]] (Sort.grow (redrawn W d) os) fun e w'' => e = .returned (.int .i64 (cmpR r (K v))) ∧ ∃ p : Regrown, w'' = Sort.grow (redrawn W p.d) p.os) :=
    fun W d os => Calls.regrown_of (cmpRanks_any r (K v) _)
  clear h hz hC hbx
  go_enter Try.func52, Try.ntmps52
  go_upto_region 1 with fail
  have HS1 : Hid (w.heap.size < (w.alloc (.cells #[.int .i64 r.1, .int .i64 r.2] 56)).heap.size) := by unfold Hid; rw [size_alloc']; omega
  generalize hw1 : w.alloc (.cells #[.int .i64 r.1, .int .i64 r.2] 56) = w1 at *
  clear hw1
  have P8 : Hid (w1.cell? ⟨p, 8, none⟩ = some (.slice (some ⟨rb, 0, none⟩) n n)) := H1.out.s.cell.2.1
  have R1 : Hid (w1.cell? ⟨rb, v * 2, none⟩ = some (.int .i64 (K v).1)) := H1.out.k.c1 hv
  have R2 : Hid (w1.cell? ⟨rb, v * 2 + 1, none⟩ = some (.int .i64 (K v).2)) := H1.out.k.c2 hv
  have X1 : Hid (w1.cell? ⟨w.heap.size, 0, none⟩ = some (.int .i64 r.1)) := HBX.out.cell (i := 0) rfl
  have X2 : Hid (w1.cell? ⟨w.heap.size, 1, none⟩ = some (.int .i64 r.2)) := HBX.out.cell (i := 1) rfl
  have p8 := cell_regrown P8.out
  have r1 := cell_regrown R1.out
  have r2 := cell_regrown R2.out
  have x1 := cell_regrown X1.out
  have x2 := cell_regrown X2.out
  by_cases hz0 : K v = (0, 0)
  · have HBT : Hid (better K v r) := Or.inl hz0
    have hq : ((K v).1 == 0 && (K v).2 == 0) = true := by rw [hz0]; rfl
    have hEQ := fun W : World => eqRank (K v).1 (K v).2 0 0 W
    rw [hq] at hEQ
    have HZ0 : Hid (K v = (0, 0)) := hz0
    clear hz0 hq
    generalize (K v).1 = k1 at *
    generalize (K v).2 = k2 at *
    generalize hr1 : r.1 = a1 at *
    generalize hr2 : r.2 = a2 at *
    have HR : Hid (r = (a1, a2)) := by unfold Hid; rw [← hr1, ← hr2]
    clear hr1 hr2
    refine wp_region_quiet_below (by kernel_rfl) (by kernel_rfl) ?_
    repeat (go_big_quiet_step (exact CG.out _ _ _))
    refine wpQuiet_nil ?_
    intro _ hw'
    obtain ⟨⟨dq, osq⟩, hw''⟩ := hw'
    subst hw''
    have HQN : Hid (Nx w1 (Sort.grow (redrawn w1 dq) osq)) := below_regrown w1 dq osq
    clear p8 r1 r2 x1 x2 CG
    generalize Sort.grow (redrawn w1 dq) osq = wq at *
    have HSq : Hid (SR C wq sb p q mb rb n gv t b iv sv K L D S) := H1.out.next HQN.out
    have p8 := cellq HQN.out P8.out
    have x1 := cellq HQN.out X1.out
    have x2 := cellq HQN.out X2.out
    have r1 := cellq HQN.out R1.out
    have r2 := cellq HQN.out R2.out
    have z1 := HSq.out.k.fz (v * 2)
    have z2 := HSq.out.k.fz (v * 2 + 1)
    have p9 : wq.cell? ⟨p, 9, none⟩ = some (.pointer (some ⟨q, 0, none⟩)) := HSq.out.s.cell.2.2.1
    have HRP : Hid (rb ≠ p) := fun e => HSq.out.sep.2.1.2.2 e.symm
    have HO : Hid (OnS [rb] wq ((wq.setCell ⟨rb, v * 2, none⟩ (.int .i64 a1)).setCell ⟨rb, v * 2 + 1, none⟩ (.int .i64 a2)).drew) := ((OnS.set _ _ (by simp) _ _).tr (OnS.set _ _ (by simp) _ _)).tr (OnS.nx (Nx.refl _).drew)
    have HWR : Hid (rb < w.heap.size) := H.out.k.lt
    have t8 := HO.out.cell (by simpa using fun e : p = rb => HRP.out e.symm) p8
    have t1 := HO.out.cell (by have := HWR.out; simp; omega) x1
    have t2 := HO.out.cell (by have := HWR.out; simp; omega) x2
    go_wp2
    go_region_held3 (fun w' => w'.cell? ⟨p, 8, none⟩ = some (.slice (some ⟨rb, 0, none⟩) n n) ∧ w'.cell? ⟨w.heap.size, 0, none⟩ = some (.int .i64 a1) ∧ w'.cell? ⟨w.heap.size, 1, none⟩ = some (.int .i64 a2)) (first | exact ⟨t8, t1, t2⟩ | (go_keep; done)) (fail)
    clear t8 t1 t2 p8 x1 x2 r1 r2 z1 z2
    have HO2 : Hid (OnS [rb] wq ((wq.setCell ⟨rb, v * 2, none⟩ (.int .i64 a1)).setCell ⟨rb, v * 2 + 1, none⟩ (.int .i64 a2)).drew) := HO.out
    have HK2 : Hid (RKM ((wq.setCell ⟨rb, v * 2, none⟩ (.int .i64 a1)).setCell ⟨rb, v * 2 + 1, none⟩ (.int .i64 a2)).drew rb n (fun y => if y = v then (a1, a2) else K y)) := RKM.kept (w := (wq.setCell ⟨rb, v * 2, none⟩ (.int .i64 a1)).setCell ⟨rb, v * 2 + 1, none⟩ (.int .i64 a2)) (RKM.set (r := (a1, a2)) (K' := fun y => if y = v then (a1, a2) else K y) HSq.out.k HV.out (if_pos rfl) (fun y hy => if_neg hy)) rfl
    generalize hW : ((wq.setCell ⟨rb, v * 2, none⟩ (.int .i64 a1)).setCell ⟨rb, v * 2 + 1, none⟩ (.int .i64 a2)).drew = w3 at *
    clear hW HO
    have p9' := HO2.out.cell (by simpa using fun e : p = rb => HRP.out e.symm) p9
    clear p9
    have HSEP : Hid (sb ∉ hbl q mb iv ∧ p ∉ hbl q mb iv ∧ rb ∉ hbl q mb iv) := HSq.out.sep.1
    have HHQ3 : Hid (HQ C w3 q sb iv mb K n L D) := ⟨⟨(HO2.out.block q (Array.getElem?_eq_some_iff.1 HSq.out.h.h.q).1 (fun e => HSEP.out.2.2 (by simp at e; rw [← e]; simp [hbl]))).trans HSq.out.h.h.q, HSq.out.h.h.i.kept (fun g e => HO2.out.block g (HSq.out.h.h.i.blk e).2.1 (fun e2 => HSEP.out.2.2 (by simp at e2; rw [← e2]; exact hbl_own e))), by
      obtain ⟨es, clock, hb, rest⟩ := HSq.out.h.h.m
      exact ⟨es, clock, (HO2.out.block mb (Array.getElem?_eq_some_iff.1 hb).1 (fun e2 => HSEP.out.2.2 (by simp at e2; rw [← e2]; simp [hbl]))).trans hb, rest⟩⟩, HSq.out.h.o, HSq.out.h.j, HSq.out.h.p, HSq.out.h.v, HSq.out.h.s⟩
    have HCM3 : Hid (CM w3 sb p rb n (fun y => if y = v then (a1, a2) else K y)) := ⟨HO2.out.cell (by simpa using HSq.out.sep.2.1.2.1) HSq.out.cm.b, ⟨n, HO2.out.cell (by simpa using fun e : p = rb => HRP.out e.symm) HSq.out.s.cell.2.1⟩, HK2.out⟩
    have HDEC : Hid (v ∈ L → ¬ rlt (K v) (a1, a2)) := fun hm => by
      rcases HBT.out with e | e
      · exact absurd e (HZ.out hm)
      · rw [HR.out] at e; exact rlt_not e
    go_wp2_with fail
    refine (put_any C q sb mb p rb n iv K (fun y => if y = v then (a1, a2) else K y) L D v _ HHQ3.out HCM3.out (fun y hy => if_neg hy) (by simp only [if_true]; exact HDEC.out) HV.out hn HSEP.out (by have h1 := HC.out; have h2 := HX0.out.size; have h3 := HQN.out.size; have h4 := HO2.out.size; omega)).mono ?_
    rintro e w4 ⟨x, iv', L', D', rfl, hp⟩
    have HF : RC C w w4 sb p q mb rb n gv t b iv sv K L S v r iv' (fun y => if y = v then (a1, a2) else K y) L' D' := by
      refine ⟨HSq.out.reached HO2.out HK2.out hp, fun _ => ⟨by simp only [if_true]; exact HR.out.symm, fun y hy => if_neg hy, hp.e⟩, fun e => absurd HBT.out e, fun g e => ?_, ?_⟩
      · rcases hp.b g e with q1 | q1
        · exact Or.inl q1
        · right
          have h2 := HX0.out.size
          have h3 := HQN.out.size
          have h4 := HO2.out.size
          omega
      · have o1 : OnS (sbl q mb rb iv) w wq := OnS.nx (HX0.out.trans HQN.out)
        exact (o1.tr (HO2.out.mono (fun x hx => by simp at hx; rw [hx]; simp [sbl]))).tr (hp.on.mono (fun x hx => List.mem_cons_of_mem _ hx))
    clear hp
    go_wp2
    refine bodyPost_end (v := .tuple #[]) (by simp [results, Try.results52, go_sem]) rfl ?_
    first | exact ⟨⟨_, rfl⟩, iv', _, L', D', HF⟩ | exact ⟨_, iv', _, L', D', rfl, HF⟩
  · have HZ0 : Hid (K v ≠ (0, 0)) := hz0
    have hcb := cmpR_bd r (K v)
    have HCL : Hid (cmpR r (K v) < 0 ↔ rlt r (K v)) := cmpR_lt _ _
    have hq : ((K v).1 == 0 && (K v).2 == 0) = false := by
      rw [← Bool.not_eq_true]
      intro e
      simp at e
      exact hz0 (Prod.ext e.1 e.2)
    have hEQ := fun W : World => eqRank (K v).1 (K v).2 0 0 W
    rw [hq] at hEQ
    by_cases hlt : cmpR r (K v) < 0
    · have d1 : decide (cmpR r (K v) < 0) = true := decide_eq_true hlt
      have HBT : Hid (better K v r) := Or.inr (HCL.out.1 hlt)
      generalize cmpR r (K v) = cc at *
      clear hz0 hq
      generalize (K v).1 = k1 at *
      generalize (K v).2 = k2 at *
      generalize hr1 : r.1 = a1 at *
      generalize hr2 : r.2 = a2 at *
      have HR : Hid (r = (a1, a2)) := by unfold Hid; rw [← hr1, ← hr2]
      clear hr1 hr2
      refine wp_region_quiet_below (by kernel_rfl) (by kernel_rfl) ?_
      repeat (go_big_quiet_step (exact CG.out _ _ _))
      refine wpQuiet_nil ?_
      intro _ hw'
      obtain ⟨⟨dq, osq⟩, hw''⟩ := hw'
      subst hw''
      have HQN : Hid (Nx w1 (Sort.grow (redrawn w1 dq) osq)) := below_regrown w1 dq osq
      clear p8 r1 r2 x1 x2 CG
      generalize Sort.grow (redrawn w1 dq) osq = wq at *
      have HSq : Hid (SR C wq sb p q mb rb n gv t b iv sv K L D S) := H1.out.next HQN.out
      have p8 := cellq HQN.out P8.out
      have x1 := cellq HQN.out X1.out
      have x2 := cellq HQN.out X2.out
      have r1 := cellq HQN.out R1.out
      have r2 := cellq HQN.out R2.out
      have z1 := HSq.out.k.fz (v * 2)
      have z2 := HSq.out.k.fz (v * 2 + 1)
      have p9 : wq.cell? ⟨p, 9, none⟩ = some (.pointer (some ⟨q, 0, none⟩)) := HSq.out.s.cell.2.2.1
      have HRP : Hid (rb ≠ p) := fun e => HSq.out.sep.2.1.2.2 e.symm
      have HO : Hid (OnS [rb] wq ((wq.setCell ⟨rb, v * 2, none⟩ (.int .i64 a1)).setCell ⟨rb, v * 2 + 1, none⟩ (.int .i64 a2)).drew) := ((OnS.set _ _ (by simp) _ _).tr (OnS.set _ _ (by simp) _ _)).tr (OnS.nx (Nx.refl _).drew)
      have HWR : Hid (rb < w.heap.size) := H.out.k.lt
      have t8 := HO.out.cell (by simpa using fun e : p = rb => HRP.out e.symm) p8
      have t1 := HO.out.cell (by have := HWR.out; simp; omega) x1
      have t2 := HO.out.cell (by have := HWR.out; simp; omega) x2
      go_wp2
      go_region_held3 (fun w' => w'.cell? ⟨p, 8, none⟩ = some (.slice (some ⟨rb, 0, none⟩) n n) ∧ w'.cell? ⟨w.heap.size, 0, none⟩ = some (.int .i64 a1) ∧ w'.cell? ⟨w.heap.size, 1, none⟩ = some (.int .i64 a2)) (first | exact ⟨t8, t1, t2⟩ | (go_keep; done)) (fail)
      clear t8 t1 t2 p8 x1 x2 r1 r2 z1 z2
      have HO2 : Hid (OnS [rb] wq ((wq.setCell ⟨rb, v * 2, none⟩ (.int .i64 a1)).setCell ⟨rb, v * 2 + 1, none⟩ (.int .i64 a2)).drew) := HO.out
      have HK2 : Hid (RKM ((wq.setCell ⟨rb, v * 2, none⟩ (.int .i64 a1)).setCell ⟨rb, v * 2 + 1, none⟩ (.int .i64 a2)).drew rb n (fun y => if y = v then (a1, a2) else K y)) := RKM.kept (w := (wq.setCell ⟨rb, v * 2, none⟩ (.int .i64 a1)).setCell ⟨rb, v * 2 + 1, none⟩ (.int .i64 a2)) (RKM.set (r := (a1, a2)) (K' := fun y => if y = v then (a1, a2) else K y) HSq.out.k HV.out (if_pos rfl) (fun y hy => if_neg hy)) rfl
      generalize hW : ((wq.setCell ⟨rb, v * 2, none⟩ (.int .i64 a1)).setCell ⟨rb, v * 2 + 1, none⟩ (.int .i64 a2)).drew = w3 at *
      clear hW HO
      have p9' := HO2.out.cell (by simpa using fun e : p = rb => HRP.out e.symm) p9
      clear p9
      have HSEP : Hid (sb ∉ hbl q mb iv ∧ p ∉ hbl q mb iv ∧ rb ∉ hbl q mb iv) := HSq.out.sep.1
      have HHQ3 : Hid (HQ C w3 q sb iv mb K n L D) := ⟨⟨(HO2.out.block q (Array.getElem?_eq_some_iff.1 HSq.out.h.h.q).1 (fun e => HSEP.out.2.2 (by simp at e; rw [← e]; simp [hbl]))).trans HSq.out.h.h.q, HSq.out.h.h.i.kept (fun g e => HO2.out.block g (HSq.out.h.h.i.blk e).2.1 (fun e2 => HSEP.out.2.2 (by simp at e2; rw [← e2]; exact hbl_own e))), by
        obtain ⟨es, clock, hb, rest⟩ := HSq.out.h.h.m
        exact ⟨es, clock, (HO2.out.block mb (Array.getElem?_eq_some_iff.1 hb).1 (fun e2 => HSEP.out.2.2 (by simp at e2; rw [← e2]; simp [hbl]))).trans hb, rest⟩⟩, HSq.out.h.o, HSq.out.h.j, HSq.out.h.p, HSq.out.h.v, HSq.out.h.s⟩
      have HCM3 : Hid (CM w3 sb p rb n (fun y => if y = v then (a1, a2) else K y)) := ⟨HO2.out.cell (by simpa using HSq.out.sep.2.1.2.1) HSq.out.cm.b, ⟨n, HO2.out.cell (by simpa using fun e : p = rb => HRP.out e.symm) HSq.out.s.cell.2.1⟩, HK2.out⟩
      have HDEC : Hid (v ∈ L → ¬ rlt (K v) (a1, a2)) := fun hm => by
        rcases HBT.out with e | e
        · exact absurd e (HZ.out hm)
        · rw [HR.out] at e; exact rlt_not e
      go_wp2_with fail
      refine (put_any C q sb mb p rb n iv K (fun y => if y = v then (a1, a2) else K y) L D v _ HHQ3.out HCM3.out (fun y hy => if_neg hy) (by simp only [if_true]; exact HDEC.out) HV.out hn HSEP.out (by have h1 := HC.out; have h2 := HX0.out.size; have h3 := HQN.out.size; have h4 := HO2.out.size; omega)).mono ?_
      rintro e w4 ⟨x, iv', L', D', rfl, hp⟩
      have HF : RC C w w4 sb p q mb rb n gv t b iv sv K L S v r iv' (fun y => if y = v then (a1, a2) else K y) L' D' := by
        refine ⟨HSq.out.reached HO2.out HK2.out hp, fun _ => ⟨by simp only [if_true]; exact HR.out.symm, fun y hy => if_neg hy, hp.e⟩, fun e => absurd HBT.out e, fun g e => ?_, ?_⟩
        · rcases hp.b g e with q1 | q1
          · exact Or.inl q1
          · right
            have h2 := HX0.out.size
            have h3 := HQN.out.size
            have h4 := HO2.out.size
            omega
        · have o1 : OnS (sbl q mb rb iv) w wq := OnS.nx (HX0.out.trans HQN.out)
          exact (o1.tr (HO2.out.mono (fun x hx => by simp at hx; rw [hx]; simp [sbl]))).tr (hp.on.mono (fun x hx => List.mem_cons_of_mem _ hx))
      clear hp
      go_wp2
      refine bodyPost_end (v := .tuple #[]) (by simp [results, Try.results52, go_sem]) rfl ?_
      first | exact ⟨⟨_, rfl⟩, iv', _, L', D', HF⟩ | exact ⟨_, iv', _, L', D', rfl, HF⟩
    · have d1 : decide (cmpR r (K v) < 0) = false := decide_eq_false hlt
      have HBT : Hid (¬ better K v r) := fun e => e.elim HZ0.out (fun e => hlt (HCL.out.2 e))
      generalize cmpR r (K v) = cc at *
      clear hz0 hq
      generalize (K v).1 = k1 at *
      generalize (K v).2 = k2 at *
      generalize hr1 : r.1 = a1 at *
      generalize hr2 : r.2 = a2 at *
      have HR : Hid (r = (a1, a2)) := by unfold Hid; rw [← hr1, ← hr2]
      clear hr1 hr2
      refine wp_region_quiet_below (by kernel_rfl) (by kernel_rfl) ?_
      repeat (go_big_quiet_step (exact CG.out _ _ _))
      refine wpQuiet_nil ?_
      intro _ hw'
      obtain ⟨⟨dq, osq⟩, hw''⟩ := hw'
      subst hw''
      have HQN : Hid (Nx w1 (Sort.grow (redrawn w1 dq) osq)) := below_regrown w1 dq osq
      clear p8 r1 r2 x1 x2 CG
      generalize Sort.grow (redrawn w1 dq) osq = wq at *
      have HF : RC C w wq sb p q mb rb n gv t b iv sv K L S v r iv K L D := ⟨H1.out.next HQN.out, fun e => absurd e HBT.out, fun _ => ⟨rfl, rfl⟩, fun g e => Or.inl e, OnS.nx (HX0.out.trans HQN.out)⟩
      go_wp2
      refine bodyPost_end (v := .tuple #[]) (by simp [results, Try.results52, go_sem]) rfl ?_
      first | exact ⟨⟨_, rfl⟩, iv, K, L, D, HF⟩ | exact ⟨_, iv, K, L, D, rfl, HF⟩
end Go.Proofs.Yticooljejlkbfaa
