import Derived.Test.YtmmolhlihhdkcaaGreatDoorBImD
import Derived.Test.YtmmolhlihhdkcaaGreatDoorBImE
namespace Go.Proofs.YtmmolhlihhdkcaaGreatDoor
open Go.RowKit
set_option linter.unusedVariables false
set_option maxHeartbeats 16000000
theorem Qep (w:World)(a b c d:Value)(t:TypeId):(w.alloc (.cells #[a,b,c,d] t)).cell? ⟨w.heap.size,0,none⟩=some a:=by go_simp
theorem Qeo (w:World)(a b c d:Value)(t:TypeId):(w.alloc (.cells #[a,b,c,d] t)).cell? ⟨w.heap.size,1,none⟩=some b:=by go_simp
theorem Qen (w:World)(a b c d:Value)(t:TypeId):(w.alloc (.cells #[a,b,c,d] t)).cell? ⟨w.heap.size,2,none⟩=some c:=by go_simp
theorem Qem (w:World)(a b c d:Value)(t:TypeId):(w.alloc (.cells #[a,b,c,d] t)).cell? ⟨w.heap.size,3,none⟩=some d:=by go_simp
theorem Wi (w:World)(o:Obj):w.heap.size<(w.alloc o).heap.size:=by simp
theorem Km (B:Nat)(v:Value)(zs:List Wy)(t:Int)(tb:Bool)(tn tw:Value)(w:World)(h0:Vh B w v zs)(ha:Zm zs=true) :
  Calls Tryz.prog 73 #[v,.agg #[.int .i64 t,.bool tb,tn,tw],.func (.func 49) #[] #[]] w λe w'=>(∃r:Int,e=.returned (.tuple #[.int .i64 r,.bool (Ju zs t)]))/\Nx w w':=by
 have hm:Hid (∀i j,i<j->j<zs.length->(wat zs i).id<(wat zs j).id):=Z1 (f:=λi=>(wat zs i).id) (λi j=>rfl) ha
 clear ha
 obtain⟨a,cap,rfl,hn,hk⟩:=h0
 unfold maxLen at hn
 generalize hz:zs.length=n at *
 have HZ:Hid (zs.length=n):=hz
 clear hz
 go_enter Tryz.func73,Tryz.ntmps73
 go_wp2
 go_loopw [9,10,11] (λi j h wr=>∃lo hi:Nat,lo<=hi/\hi<=n/\i=.int .i64 lo/\j=.int .i64 hi/\Hid (Mid (λi=>(wat zs i).id) n t lo hi)/\Hid (Nx (w.alloc (.cells #[.int .i64 t,.bool tb,tn,tw] 45)) wr)) (λi j _ _=>(intOf j).toNat-(intOf i).toNat)
 case atStart=>exact⟨0,n,Nat.zero_le _,Nat.le_refl _,rfl,rfl,Ac _ _ _,Nx.refl _⟩
 case round=>
  obtain⟨lo,hi,h1,h2,rfl,rfl,hrel,HN⟩:=hrel
  have x0:=Q1 HN.out (Wi _ _) (Qep w (.int .i64 t) (.bool tb) tn tw 45)
  have x1:=Q1 HN.out (Wi _ _) (Qeo w (.int .i64 t) (.bool tb) tn tw 45)
  have x2:=Q1 HN.out (Wi _ _) (Qen w (.int .i64 t) (.bool tb) tn tw 45)
  have x3:=Q1 HN.out (Wi _ _) (Qem w (.int .i64 t) (.bool tb) tn tw 45)
  have HNW:Hid (Nx w wr):=(Qd w _).trans HN.out
  have hwr:w.heap.size<wr.heap.size:=Nat.lt_of_lt_of_le (Wi w _) HN.out.size
  by_cases hlt:lo<hi
  ·obtain⟨b,off,rfl,hB,hb,hc⟩:=hk (by omega)
   obtain⟨h,hh,hh1,hh2⟩:=Qcz lo hi hlt (by omega)
   obtain⟨p1,p2,a0,a1,a2,a3,_⟩:=hc h (by omega)
   have hbr:b<wr.heap.size:=Nat.lt_of_lt_of_le hb HNW.out.size
   have a0:=Q1 HNW.out hb a0
   have a1:=Q1 HNW.out hb a1
   have a2:=Q1 HNW.out hb a2
   have a3:=Q1 HNW.out hb a3
   have hhn:(h:Int)<n:=by omega
   clear hc hk
   by_cases hab:(wat zs h).id<t
   ·have HM:Hid (Mid (λi=>(wat zs i).id) n t (h+1) hi):=Q9l hm.out hrel.out hh2 hab hh1
    have hd:decide (V1 (wat zs h).id t<0)=true:=by rw[Q2q];simp[hab]
    go_wp2
    go_region_held3 (λw'=>w'.cell? ⟨b,off+h*4,none⟩=some (.int .i64 (wat zs h).id)/\w'.cell? ⟨b,off+h*4+1,none⟩=some (.bool (wat zs h).both)/\w'.cell? ⟨b,off+h*4+2,none⟩=some p1/\w'.cell? ⟨b,off+h*4+3,none⟩=some p2/\w'.cell? ⟨w.heap.size,0,none⟩=some (.int .i64 t)/\w'.cell? ⟨w.heap.size,1,none⟩=some (.bool tb)/\w'.cell? ⟨w.heap.size,2,none⟩=some tn/\w'.cell? ⟨w.heap.size,3,none⟩=some tw) (first|go_keep|exact⟨Q1 hx hbr a0,Q1 hx hbr a1,Q1 hx hbr a2,Q1 hx hbr a3,Q1 hx hwr x0,Q1 hx hwr x1,Q1 hx hwr x2,Q1 hx hwr x3⟩) (first|(go_at_call 49;refine(Y6 _ _ _ _ _ _ _ _ _).mono ?_;rintro e w' ⟨rfl,hx⟩))
    all_goals go_wp2
    all_goals
     go_roundw
     case rel=>exact⟨h+1,hi,by omega,by omega,by go_num,rfl,HM,HN.out.drew.trans hx⟩
     case measure=>simp[intOf];omega
   ·have HM:Hid (Mid (λi=>(wat zs i).id) n t lo h):=Q21 hm.out hrel.out hh2 hab hh1
    have hd:decide (V1 (wat zs h).id t<0)=false:=by rw[Q2q];simp[hab]
    go_wp2
    go_region_held3 (λw'=>w'.cell? ⟨b,off+h*4,none⟩=some (.int .i64 (wat zs h).id)/\w'.cell? ⟨b,off+h*4+1,none⟩=some (.bool (wat zs h).both)/\w'.cell? ⟨b,off+h*4+2,none⟩=some p1/\w'.cell? ⟨b,off+h*4+3,none⟩=some p2/\w'.cell? ⟨w.heap.size,0,none⟩=some (.int .i64 t)/\w'.cell? ⟨w.heap.size,1,none⟩=some (.bool tb)/\w'.cell? ⟨w.heap.size,2,none⟩=some tn/\w'.cell? ⟨w.heap.size,3,none⟩=some tw) (first|go_keep|exact⟨Q1 hx hbr a0,Q1 hx hbr a1,Q1 hx hbr a2,Q1 hx hbr a3,Q1 hx hwr x0,Q1 hx hwr x1,Q1 hx hwr x2,Q1 hx hwr x3⟩) (first|(go_at_call 49;refine(Y6 _ _ _ _ _ _ _ _ _).mono ?_;rintro e w' ⟨rfl,hx⟩))
    all_goals go_wp2
    all_goals
     go_roundw
     case rel=>exact⟨lo,h,by omega,by omega,rfl,rfl,HM,HN.out.drew.trans hx⟩
     case measure=>simp[intOf];omega
  ·have e:hi=lo:=by omega
   subst e
   have HF:Hid (Ju zs t=(decide (hi<n)&&((wat zs hi).id==t))):=by have z:=HZ.out;subst z;exact Q9v hm.out hrel.out
   by_cases hl:hi<n
   ·obtain⟨b,off,rfl,hB,hb,hc⟩:=hk (by omega)
    obtain⟨p1,p2,a0,a1,a2,a3,_⟩:=hc hi hl
    have hbr:b<wr.heap.size:=Nat.lt_of_lt_of_le hb HNW.out.size
    have a0:=Q1 HNW.out hb a0
    have a1:=Q1 HNW.out hb a1
    have a2:=Q1 HNW.out hb a2
    have a3:=Q1 HNW.out hb a3
    have hln:(hi:Int)<n:=by omega
    have hld:decide ((hi:Int)<n)=true:=by simpa using hl
    clear hc hk
    by_cases he:(wat zs hi).id=t
    ·have hd:(V1 (wat zs hi).id t==0)=true:=by rw[An];simpa using he
     have HF':Hid (Ju zs t=true):=by unfold Hid;rw[HF.out];simp[hl,he]
     clear he
     go_wp2
     go_region_held3 (λw'=>w'.cell? ⟨b,off+hi*4,none⟩=some (.int .i64 (wat zs hi).id)/\w'.cell? ⟨b,off+hi*4+1,none⟩=some (.bool (wat zs hi).both)/\w'.cell? ⟨b,off+hi*4+2,none⟩=some p1/\w'.cell? ⟨b,off+hi*4+3,none⟩=some p2/\w'.cell? ⟨w.heap.size,0,none⟩=some (.int .i64 t)/\w'.cell? ⟨w.heap.size,1,none⟩=some (.bool tb)/\w'.cell? ⟨w.heap.size,2,none⟩=some tn/\w'.cell? ⟨w.heap.size,3,none⟩=some tw) (first|go_keep|exact⟨Q1 hx hbr a0,Q1 hx hbr a1,Q1 hx hbr a2,Q1 hx hbr a3,Q1 hx hwr x0,Q1 hx hwr x1,Q1 hx hwr x2,Q1 hx hwr x3⟩) (first|(go_at_call 49;refine(Y6 _ _ _ _ _ _ _ _ _).mono ?_;rintro e w' ⟨rfl,hx⟩))
     all_goals go_wp2
     all_goals
      go_ret2
      exact⟨⟨_,I5 HF'.out.symm⟩,HNW.out.drew.trans hx⟩
    ·have hd:(V1 (wat zs hi).id t==0)=false:=by rw[An];simpa using he
     have HF':Hid (Ju zs t=false):=by unfold Hid;rw[HF.out];simp[he]
     clear he
     go_wp2
     go_region_held3 (λw'=>w'.cell? ⟨b,off+hi*4,none⟩=some (.int .i64 (wat zs hi).id)/\w'.cell? ⟨b,off+hi*4+1,none⟩=some (.bool (wat zs hi).both)/\w'.cell? ⟨b,off+hi*4+2,none⟩=some p1/\w'.cell? ⟨b,off+hi*4+3,none⟩=some p2/\w'.cell? ⟨w.heap.size,0,none⟩=some (.int .i64 t)/\w'.cell? ⟨w.heap.size,1,none⟩=some (.bool tb)/\w'.cell? ⟨w.heap.size,2,none⟩=some tn/\w'.cell? ⟨w.heap.size,3,none⟩=some tw) (first|go_keep|exact⟨Q1 hx hbr a0,Q1 hx hbr a1,Q1 hx hbr a2,Q1 hx hbr a3,Q1 hx hwr x0,Q1 hx hwr x1,Q1 hx hwr x2,Q1 hx hwr x3⟩) (first|(go_at_call 49;refine(Y6 _ _ _ _ _ _ _ _ _).mono ?_;rintro e w' ⟨rfl,hx⟩))
     all_goals go_wp2
     all_goals
      go_ret2
      exact⟨⟨_,I5 HF'.out.symm⟩,HNW.out.drew.trans hx⟩
   ·have HF':Hid (Ju zs t=false):=by unfold Hid;rw[HF.out];simp[hl]
    have hd:decide ((hi:Int)<n)=false:=by simp;omega
    go_wp2
    go_quiet (fail)
    all_goals go_wp2
    all_goals
     go_ret2
     exact⟨⟨_,I5 HF'.out.symm⟩,HNW.out.trans ⟨rfl,rfl,rfl,Nat.le_refl _,λ_ _=>rfl⟩⟩
theorem Xy (B:Nat)(v0 v1 v2 v3:Value)(u id:Int)(zs:List Wy)(w:World)(h0:Vh B w v1 zs)(ha:Zm zs=true) :
  Calls Tryz.prog 53 #[.agg #[v0,v1,v2,v3,.int .i64 u],.int .i64 id] w λe w'=>e=.returned (.bool (Ju zs id))/\Nx w w':=by
 have HA:Hid (Zm zs=true):=ha
 clear ha
 go_enter Tryz.func53,Tryz.ntmps53
 go_wp2_with (go_at_call 73;refine(Km B _ zs _ _ _ _ _ (by exact h0.keep ((Qd _ _).keeps B)) HA.out).mono ?_;rintro e w' ⟨⟨r,rfl⟩,hx⟩)
 go_ret
 exact⟨rfl,(Qd _ _).trans hx⟩
end Go.Proofs.YtmmolhlihhdkcaaGreatDoor
