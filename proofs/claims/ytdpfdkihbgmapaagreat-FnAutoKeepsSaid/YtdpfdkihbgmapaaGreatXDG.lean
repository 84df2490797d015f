import Derived.Test.YtdpfdkihbgmapaaGreatXCE
import Derived.Test.YtdpfdkihbgmapaaGreatXDD
namespace Go.Proofs.YtdpfdkihbgmapaaGreat
open Go.RowKit Go.Sort Go.Maps
set_option linter.unusedVariables false
set_option maxRecDepth 1000000
set_option maxHeartbeats 16000000
def WrE (ws:List (List Int))(mu:List Int->Int)(bd:List Int->Bool)(w w':World)(e:Ending):Prop:=∃(a0:Option Addr) (n0 c0:Nat) (a1:Option Addr) (n1 c1:Nat) (a2:Option Addr) (n2 c2:Nat) (a3:Option Addr) (n3 c3:Nat) (a4:Option Addr) (n4 c4:Nat),e=.returned (.agg #[.slice a0 n0 c0,.slice a1 n1 c1,.slice a2 n2 c2,.slice a3 n3 c3,.slice a4 n4 c4])/\O5 w.heap.size w' (.slice a0 n0 c0) (.slice a1 n1 c1) (.slice a2 n2 c2) (.slice a3 n3 c3) (.slice a4 n4 c4) (autoOf ws mu bd)
theorem writeAuto_any (C:Nat)(v:Value)(w:World)(ws:List (List Int))(mu:List Int->Int)(bd:List Int->Bool)(bl:Nat->Nat)(len:Nat->Int)(par fl mv:Nat->Value)(hO:OwnP C w v ((List.range ws.length).map bl))(h:NR ws.length w bl (λs=>(s:Int)) len (λs=>lastE (wd ws s)) (λs=>mu (wd ws s)) (λs=>bd (wd ws s)) par fl mv)(hn:ws.length<=2000)(hnp:0<ws.length)
  (hp:∀s,s<ws.length->(par s=.pointer none/\fPa ws (wd ws s)=-1)\/∃t,t<ws.length/\par s=ptr (bl t)/\fPa ws (wd ws s)=(t:Nat)) (hf:∀s,s<ws.length->(fl s=.pointer none/\fFa ws (wd ws s)=-1)\/∃t,t<ws.length/\fl s=ptr (bl t)/\fFa ws (wd ws s)=(t:Nat)) :
  Calls Tryz.prog 16 #[v] w λe w'=>WrE ws mu bd w w' e/\Nx w w':=by
 obtain⟨ii,hi,hz0,hz1,hz2⟩:=info_parts infoInt
 obtain⟨jj,hj0,hj1,hj2,hj3⟩:=info_parts infoBool
 have HO:Hid (OwnP C w v ((List.range ws.length).map bl)):=hO
 have HNR:Hid (NR ws.length w bl (λs=>(s:Int)) len (λs=>lastE (wd ws s)) (λs=>mu (wd ws s)) (λs=>bd (wd ws s)) par fl mv):=h
 have HPA:Hid (∀s,s<ws.length->(par s=.pointer none/\fPa ws (wd ws s)=-1)\/∃t,t<ws.length/\par s=ptr (bl t)/\fPa ws (wd ws s)=(t:Nat)):=hp
 have HFA:Hid (∀s,s<ws.length->(fl s=.pointer none/\fFa ws (wd ws s)=-1)\/∃t,t<ws.length/\fl s=ptr (bl t)/\fFa ws (wd ws s)=(t:Nat)):=hf
 have HX2:Hid (Nx w (w.alloc (.cells #[.slice none 0 0,.slice none 0 0,.slice none 0 0,.slice none 0 0,.slice none 0 0] 28))):=box1 _ _
 have HBX:Hid (Blk (w.alloc (.cells #[.slice none 0 0,.slice none 0 0,.slice none 0 0,.slice none 0 0,.slice none 0 0] 28)) w.heap.size #[.slice none 0 0,.slice none 0 0,.slice none 0 0,.slice none 0 0,.slice none 0 0]):=Blk.new w _ _ _ rfl
 have HRS0:Hid (RS (w.heap.size+1) ((w.alloc (.cells #[.slice none 0 0,.slice none 0 0,.slice none 0 0,.slice none 0 0,.slice none 0 0] 28)).alloc (.cells #[.slice none 0 0,.slice none 0 0,.slice none 0 0,.slice none 0 0,.slice none 0 0] 28)) (auK ws (fPa ws) lastE (fFa ws) mu bd 0 0 0 0 0)):=by
  have hR:=R5.start (w.alloc (.cells #[.slice none 0 0,.slice none 0 0,.slice none 0 0,.slice none 0 0,.slice none 0 0] 28)) 28
  rw[size_alloc'] at hR
  exact RS.of (by simpa [auK,auZ] using hR)
 have HN0:Hid (Below (w.heap.size+1) (w.alloc (.cells #[.slice none 0 0,.slice none 0 0,.slice none 0 0,.slice none 0 0,.slice none 0 0] 28)) ((w.alloc (.cells #[.slice none 0 0,.slice none 0 0,.slice none 0 0,.slice none 0 0,.slice none 0 0] 28)).alloc (.cells #[.slice none 0 0,.slice none 0 0,.slice none 0 0,.slice none 0 0,.slice none 0 0] 28))):=Below.alloc (Below.refl _ _) (by rw[size_alloc'];exact Nat.le_refl _) _
 obtain⟨va,vc,rfl⟩:=hO.slice
 rw[List.length_map,List.length_range] at *
 obtain⟨g,hag,_⟩:=HO.out.cell (i:=0) (by simp;exact hnp)
 subst hag
 generalize hzn:ws.length=n at *
 have HZ:Hid (ws.length=n):=hzn
 have HCELL:Hid (∀i,i<n->w.cell? ⟨g,i,none⟩=some (.pointer (some ⟨bl i,0,none⟩))):=by
  intro i h2
  obtain⟨g',hg',hc'⟩:=HO.out.cell (i:=i) (by simp;exact h2)
  rw[nat_range bl h2] at hc'
  have:g=g':=by simpa using hg'
  subst this
  exact hc'
 clear hO h hp hf hzn
 go_enter Tryz.func16,Tryz.ntmps16
 go_wp2
 generalize w.alloc (.cells #[.slice none 0 0,.slice none 0 0,.slice none 0 0,.slice none 0 0,.slice none 0 0] 28)=w2 at *
 go_loopw [5,8] (λ_ i wr=>∃k:Nat,k<=n/\i=.int .i64 k/\Hid (RS (w.heap.size+1) wr (auK ws (fPa ws) lastE (fFa ws) mu bd k k k k k))/\Hid (Below (w.heap.size+1) w2 wr)) (λ_ i _=>n-(intOf i).toNat)
 case atStart=>exact⟨0,Nat.zero_le _,rfl,HRS0,HN0⟩
 clear HRS0 HN0
 obtain⟨k,hkn,rfl,HRS,HN⟩:=hrel
 have HW:Hid (Nx w wr):=Below.trans HX2.out (Below.mono HN.out (Nat.le_succ _))
 by_cases hlt:k<n
 case neg=>
  have ek:n=k:=by omega
  have hnl:¬(k:Int)<n:=by omega
  obtain⟨a0,n0,c0,a1,n1,c1,a2,n2,c2,a3,n3,c3,a4,n4,c4,hR⟩:=HRS.out
  have HO5:Hid (O5 (w.heap.size+1) wr (.slice a0 n0 c0) (.slice a1 n1 c1) (.slice a2 n2 c2) (.slice a3 n3 c3) (.slice a4 n4 c4) (autoOf ws mu bd)):=by
   unfold Hid
   rw[<-auK_all,HZ.out,ek]
   exact hR.five.base (Nat.le_succ _)
  have BB:=HBX.out.below HN.out (Nat.lt_succ_self _)
  have k0:_=some (Value.slice none 0 0):=BB.cell (i:=0) rfl
  have z0:=BB.frozen 0
  have y0:_=some (Value.slice a0 n0 c0):=hR.bx.cell (i:=0) rfl
  have k1:_=some (Value.slice none 0 0):=BB.cell (i:=1) rfl
  have z1:=BB.frozen 1
  have y1:_=some (Value.slice a1 n1 c1):=hR.bx.cell (i:=1) rfl
  have k2:_=some (Value.slice none 0 0):=BB.cell (i:=2) rfl
  have z2:=BB.frozen 2
  have y2:_=some (Value.slice a2 n2 c2):=hR.bx.cell (i:=2) rfl
  have k3:_=some (Value.slice none 0 0):=BB.cell (i:=3) rfl
  have z3:=BB.frozen 3
  have y3:_=some (Value.slice a3 n3 c3):=hR.bx.cell (i:=3) rfl
  have k4:_=some (Value.slice none 0 0):=BB.cell (i:=4) rfl
  have z4:=BB.frozen 4
  have y4:_=some (Value.slice a4 n4 c4):=hR.bx.cell (i:=4) rfl
  clear hR ek HRS
  go_wp2
  have BR':=(((((BB).set 0 (.slice a0 n0 c0)).set 1 (.slice a1 n1 c1)).set 2 (.slice a2 n2 c2)).set 3 (.slice a3 n3 c3)).set 4 (.slice a4 n4 c4)
  have q0:_=some (Value.slice a0 n0 c0):=BR'.cell (i:=0) rfl
  have q1:_=some (Value.slice a1 n1 c1):=BR'.cell (i:=1) rfl
  have q2:_=some (Value.slice a2 n2 c2):=BR'.cell (i:=2) rfl
  have q3:_=some (Value.slice a3 n3 c3):=BR'.cell (i:=3) rfl
  have q4:_=some (Value.slice a4 n4 c4):=BR'.cell (i:=4) rfl
  clear k0 k1 k2 k3 k4 BR'
  refine bodyPost_ret (v:=.agg #[.slice a0 n0 c0,.slice a1 n1 c1,.slice a2 n2 c2,.slice a3 n3 c3,.slice a4 n4 c4]) (by simp[results,Tryz.results16,go_sem,q0,q1,q2,q3,q4]) rfl ?_
  have hk5:∀(wq:World) (i:Nat) (u:Value),O5 (w.heap.size+1) wq (.slice a0 n0 c0) (.slice a1 n1 c1) (.slice a2 n2 c2) (.slice a3 n3 c3) (.slice a4 n4 c4) (autoOf ws mu bd)->O5 (w.heap.size+1) (wq.setCell ⟨w.heap.size,i,none⟩ u) (.slice a0 n0 c0) (.slice a1 n1 c1) (.slice a2 n2 c2) (.slice a3 n3 c3) (.slice a4 n4 c4) (autoOf ws mu bd):=λwq i u h=>⟨own_store h.o0 (Nat.lt_succ_self _) _ _,own_store h.o1 (Nat.lt_succ_self _) _ _,own_store h.o2 (Nat.lt_succ_self _) _ _,own_store h.o3 (Nat.lt_succ_self _) _ _,own_store h.o4 (Nat.lt_succ_self _) _ _,h.a01,h.a02,h.a03,h.a12,h.a13,h.a23⟩
  exact⟨⟨a0,n0,c0,a1,n1,c1,a2,n2,c2,a3,n3,c3,a4,n4,c4,rfl,O5.base (hk5 _ _ _ (hk5 _ _ _ (hk5 _ _ _ (hk5 _ _ _ (hk5 _ _ _ HO5.out))))) (Nat.le_succ _)⟩,(Below.setCell (Below.setCell (Below.setCell (Below.setCell (Below.setCell HW.out (Nat.le_refl _) _) (Nat.le_refl _) _) (Nat.le_refl _) _) (Nat.le_refl _) _) (Nat.le_refl _) _)⟩
 have hlt':(k:Int)<n:=by omega
 have x0:=cellq HW.out (HCELL.out k hlt)
 have HKN:Hid (k<ws.length):=by unfold Hid;rw[HZ.out];exact hlt
 have hk2:k<=2000:=by omega
 go_upto_region 5 with fail
 go_cut [5,8] from 8 to 59 (λs5 s8 wc=>s5=.pointer (some ⟨bl k,0,none⟩)/\s8=.int .i64 k/\Hid (RS (w.heap.size+1) wc (auK ws (fPa ws) lastE (fFa ws) mu bd (k+1) k k k k))/\Hid (Below (w.heap.size+1) w2 wc))
 case first=>
  obtain⟨a0,n0,c0,a1,n1,c1,a2,n2,c2,a3,n3,c3,a4,n4,c4,hR0⟩:=HRS.out
  have R4:Hid _:=hR0
  have y4:_=some (Value.slice a0 n0 c0):=hR0.bx.cell (i:=0) rfl
  have z4:=hR0.bx.frozen 0
  have ND:=HNR.out.nd k hlt
  have s1:wr.cell? ⟨bl k,5,none⟩=some (par k):=cellq HW.out (ND.cell (i:=5) rfl)
  clear hR0 ND
  have HNUM:Hid (∀wq:World,Nx w wq->Calls Tryz.prog 34 #[par k] wq λr w'=>r=.returned (.int .i64 (fPa ws (wd ws k)))/\w'=wq):=by
   intro wq hq
   rcases HPA.out k hlt with⟨h1,h2⟩|⟨t,ht,h1,h2⟩
   ·rw[h1,h2];exact numberOf_nil wq
   ·rw[h1,h2];exact numberOf_any _ _ _ _ _ _ _ _ _ wq ((HNR.out.nd t ht).next hq)
  have y6:((wr.alloc (.cells #[.int .i64 (fPa ws (wd ws k))] 2)).drew).cell? ⟨w.heap.size+1,0,none⟩=some (.slice a0 n0 c0):=cellq (box1 _ _) y4
  go_region_law (first|(go_simp;go_at_call 34;refine(HNUM.out _ (by exact HW.out.drew)).mono ?_;rintro e w4 ⟨rfl,rfl⟩)|(refine step_append_at rfl (.tmp 13) (.tmp 19) 25 rfl 2 ii (.int .i64 0) 1 8 Tryz.underlying25 hi hz0 hz1 hz2 rfl (by decide) (w.heap.size+1+1) (.slice a0 n0 c0) _ _ (by simp[Act.eval]) (show((wr.alloc (.cells #[.int .i64 (fPa ws (wd ws k))] 2)).drew).ownsRow _ _ _ _ _ _ from World.ownsRow.alloc R4.out.o0 _) ⟨wr.heap.size,0,none⟩ 1 1 [.int .i64 (fPa ws (wd ws k))] (by simp[Act.eval]) rfl (λj u hj=>show((wr.alloc (.cells #[.int .i64 (fPa ws (wd ws k))] 2)).drew).cell? _=_ from new_cells wr _ _ _ rfl j u hj) (by intro u hu;simp at hu;subst hu;rfl) (by have:=auK_len (ws:=ws) (k:=k) hk2 (fPa ws);unfold maxLen;simp only[auK];omega) (by have:=auK_len (ws:=ws) (k:=k) hk2 (fPa ws);simp only[auK];omega) (by have:=R4.out.bx.lt;show _<=(wr.alloc (.cells #[.int .i64 (fPa ws (wd ws k))] 2)).heap.size;rw[size_alloc'];omega) ?_;intro v' w' hown hgrow0 hat;have hgrow:(wr.alloc (.cells #[.int .i64 (fPa ws (wd ws k))] 2)).grownBy w' (Value.slice a0 n0 c0).ownBlock:=⟨hgrow0.os,hgrow0.tape,hgrow0.output,hgrow0.size,hgrow0.block⟩;obtain⟨ra,rn,rc,hrs⟩:=own_slice hown;subst hrs;have hbx:=(R4.out.box0 _ hgrow).1;have hfz:=(R4.out.box0 _ hgrow).2;have R':Hid _:=R4.out.app0 _ hown hgrow hat;have HGR:Hid _:=hgrow;clear hown hgrow hgrow0 hat))
  all_goals go_wp2
  all_goals go_meet
  all_goals exact⟨rfl,rfl,RS.of0 R'.out HKN.out rfl,R4.out.low0 _ HGR.out HN.out⟩
 case rest=>
 clear HRS HN HW x0
 obtain⟨hs5,hs8,HRS,HN⟩:=hcut
 subst hs5 hs8
 have HW:Hid (Nx w wc):=Below.trans HX2.out (Below.mono HN.out (Nat.le_succ _))
 have x0:True:=trivial
 go_upto_region 6 with fail
 go_cut [5,8] from 8 to 59 (λs5 s8 wc=>s5=.pointer (some ⟨bl k,0,none⟩)/\s8=.int .i64 k/\Hid (RS (w.heap.size+1) wc (auK ws (fPa ws) lastE (fFa ws) mu bd (k+1) (k+1) k k k))/\Hid (Below (w.heap.size+1) w2 wc))
 case first=>
  obtain⟨a0,n0,c0,a1,n1,c1,a2,n2,c2,a3,n3,c3,a4,n4,c4,hR0⟩:=HRS.out
  have R4:Hid _:=hR0
  have y4:_=some (Value.slice a1 n1 c1):=hR0.bx.cell (i:=1) rfl
  have z4:=hR0.bx.frozen 1
  have ND:=HNR.out.nd k hlt
  have s1:wc.cell? ⟨bl k,2,none⟩=some (Value.int .i64 (lastE (wd ws k))):=cellq HW.out (ND.cell (i:=2) rfl)
  clear hR0 ND
  have y6:((wc.alloc (.cells #[.int .i64 (lastE (wd ws k))] 2)).drew).cell? ⟨w.heap.size+1,1,none⟩=some (.slice a1 n1 c1):=cellq (box1 _ _) y4
  go_region_law (refine step_append_at rfl (.tmp 23) (.tmp 28) 25 rfl 2 ii (.int .i64 0) 1 8 Tryz.underlying25 hi hz0 hz1 hz2 rfl (by decide) (w.heap.size+1+1) (.slice a1 n1 c1) _ _ (by simp[Act.eval]) (show((wc.alloc (.cells #[.int .i64 (lastE (wd ws k))] 2)).drew).ownsRow _ _ _ _ _ _ from World.ownsRow.alloc R4.out.o1 _) ⟨wc.heap.size,0,none⟩ 1 1 [.int .i64 (lastE (wd ws k))] (by simp[Act.eval]) rfl (λj u hj=>show((wc.alloc (.cells #[.int .i64 (lastE (wd ws k))] 2)).drew).cell? _=_ from new_cells wc _ _ _ rfl j u hj) (by intro u hu;simp at hu;subst hu;rfl) (by have:=auK_len (ws:=ws) (k:=k) hk2 lastE;unfold maxLen;simp only[auK];omega) (by have:=auK_len (ws:=ws) (k:=k) hk2 lastE;simp only[auK];omega) (by have:=R4.out.bx.lt;show _<=(wc.alloc (.cells #[.int .i64 (lastE (wd ws k))] 2)).heap.size;rw[size_alloc'];omega) ?_;intro v' w' hown hgrow0 hat;have hgrow:(wc.alloc (.cells #[.int .i64 (lastE (wd ws k))] 2)).grownBy w' (Value.slice a1 n1 c1).ownBlock:=⟨hgrow0.os,hgrow0.tape,hgrow0.output,hgrow0.size,hgrow0.block⟩;obtain⟨ra,rn,rc,hrs⟩:=own_slice hown;subst hrs;have hbx:=(R4.out.box1 _ hgrow).1;have hfz:=(R4.out.box1 _ hgrow).2;have R':Hid _:=R4.out.app1 _ hown hgrow hat;have HGR:Hid _:=hgrow;clear hown hgrow hgrow0 hat)
  all_goals go_wp2
  all_goals go_meet
  all_goals exact⟨rfl,rfl,RS.of1 R'.out HKN.out rfl,R4.out.low1 _ HGR.out HN.out⟩
 case rest=>
 clear HRS HN HW x0
 obtain⟨hs5,hs8,HRS,HN⟩:=hcut
 subst hs5 hs8
 have HW:Hid (Nx w wc):=Below.trans HX2.out (Below.mono HN.out (Nat.le_succ _))
 have x0:True:=trivial
 go_upto_region 7 with fail
 go_cut [5,8] from 8 to 59 (λs5 s8 wc=>s5=.pointer (some ⟨bl k,0,none⟩)/\s8=.int .i64 k/\Hid (RS (w.heap.size+1) wc (auK ws (fPa ws) lastE (fFa ws) mu bd (k+1) (k+1) (k+1) k k))/\Hid (Below (w.heap.size+1) w2 wc))
 case first=>
  obtain⟨a0,n0,c0,a1,n1,c1,a2,n2,c2,a3,n3,c3,a4,n4,c4,hR0⟩:=HRS.out
  have R4:Hid _:=hR0
  have y4:_=some (Value.slice a2 n2 c2):=hR0.bx.cell (i:=2) rfl
  have z4:=hR0.bx.frozen 2
  have ND:=HNR.out.nd k hlt
  have s1:wc.cell? ⟨bl k,6,none⟩=some (fl k):=cellq HW.out (ND.cell (i:=6) rfl)
  clear hR0 ND
  have HNUM:Hid (∀wq:World,Nx w wq->Calls Tryz.prog 34 #[fl k] wq λr w'=>r=.returned (.int .i64 (fFa ws (wd ws k)))/\w'=wq):=by
   intro wq hq
   rcases HFA.out k hlt with⟨h1,h2⟩|⟨t,ht,h1,h2⟩
   ·rw[h1,h2];exact numberOf_nil wq
   ·rw[h1,h2];exact numberOf_any _ _ _ _ _ _ _ _ _ wq ((HNR.out.nd t ht).next hq)
  have y6:((wc.alloc (.cells #[.int .i64 (fFa ws (wd ws k))] 2)).drew).cell? ⟨w.heap.size+1,2,none⟩=some (.slice a2 n2 c2):=cellq (box1 _ _) y4
  go_region_law (first|(go_simp;go_at_call 34;refine(HNUM.out _ (by exact HW.out.drew)).mono ?_;rintro e w4 ⟨rfl,rfl⟩)|(refine step_append_at rfl (.tmp 32) (.tmp 38) 25 rfl 2 ii (.int .i64 0) 1 8 Tryz.underlying25 hi hz0 hz1 hz2 rfl (by decide) (w.heap.size+1+1) (.slice a2 n2 c2) _ _ (by simp[Act.eval]) (show((wc.alloc (.cells #[.int .i64 (fFa ws (wd ws k))] 2)).drew).ownsRow _ _ _ _ _ _ from World.ownsRow.alloc R4.out.o2 _) ⟨wc.heap.size,0,none⟩ 1 1 [.int .i64 (fFa ws (wd ws k))] (by simp[Act.eval]) rfl (λj u hj=>show((wc.alloc (.cells #[.int .i64 (fFa ws (wd ws k))] 2)).drew).cell? _=_ from new_cells wc _ _ _ rfl j u hj) (by intro u hu;simp at hu;subst hu;rfl) (by have:=auK_len (ws:=ws) (k:=k) hk2 (fFa ws);unfold maxLen;simp only[auK];omega) (by have:=auK_len (ws:=ws) (k:=k) hk2 (fFa ws);simp only[auK];omega) (by have:=R4.out.bx.lt;show _<=(wc.alloc (.cells #[.int .i64 (fFa ws (wd ws k))] 2)).heap.size;rw[size_alloc'];omega) ?_;intro v' w' hown hgrow0 hat;have hgrow:(wc.alloc (.cells #[.int .i64 (fFa ws (wd ws k))] 2)).grownBy w' (Value.slice a2 n2 c2).ownBlock:=⟨hgrow0.os,hgrow0.tape,hgrow0.output,hgrow0.size,hgrow0.block⟩;obtain⟨ra,rn,rc,hrs⟩:=own_slice hown;subst hrs;have hbx:=(R4.out.box2 _ hgrow).1;have hfz:=(R4.out.box2 _ hgrow).2;have R':Hid _:=R4.out.app2 _ hown hgrow hat;have HGR:Hid _:=hgrow;clear hown hgrow hgrow0 hat))
  all_goals go_wp2
  all_goals go_meet
  all_goals exact⟨rfl,rfl,RS.of2 R'.out HKN.out rfl,R4.out.low2 _ HGR.out HN.out⟩
 case rest=>
 clear HRS HN HW x0
 obtain⟨hs5,hs8,HRS,HN⟩:=hcut
 subst hs5 hs8
 have HW:Hid (Nx w wc):=Below.trans HX2.out (Below.mono HN.out (Nat.le_succ _))
 have x0:True:=trivial
 go_upto_region 8 with fail
 go_cut [5,8] from 8 to 59 (λs5 s8 wc=>s5=.pointer (some ⟨bl k,0,none⟩)/\s8=.int .i64 k/\Hid (RS (w.heap.size+1) wc (auK ws (fPa ws) lastE (fFa ws) mu bd (k+1) (k+1) (k+1) (k+1) k))/\Hid (Below (w.heap.size+1) w2 wc))
 case first=>
  obtain⟨a0,n0,c0,a1,n1,c1,a2,n2,c2,a3,n3,c3,a4,n4,c4,hR0⟩:=HRS.out
  have R4:Hid _:=hR0
  have y4:_=some (Value.slice a3 n3 c3):=hR0.bx.cell (i:=3) rfl
  have z4:=hR0.bx.frozen 3
  have ND:=HNR.out.nd k hlt
  have s1:wc.cell? ⟨bl k,3,none⟩=some (Value.int .i64 (mu (wd ws k))):=cellq HW.out (ND.cell (i:=3) rfl)
  clear hR0 ND
  have y6:((wc.alloc (.cells #[.int .i64 (mu (wd ws k))] 2)).drew).cell? ⟨w.heap.size+1,3,none⟩=some (.slice a3 n3 c3):=cellq (box1 _ _) y4
  go_region_law (refine step_append_at rfl (.tmp 42) (.tmp 47) 25 rfl 2 ii (.int .i64 0) 1 8 Tryz.underlying25 hi hz0 hz1 hz2 rfl (by decide) (w.heap.size+1+1) (.slice a3 n3 c3) _ _ (by simp[Act.eval]) (show((wc.alloc (.cells #[.int .i64 (mu (wd ws k))] 2)).drew).ownsRow _ _ _ _ _ _ from World.ownsRow.alloc R4.out.o3 _) ⟨wc.heap.size,0,none⟩ 1 1 [.int .i64 (mu (wd ws k))] (by simp[Act.eval]) rfl (λj u hj=>show((wc.alloc (.cells #[.int .i64 (mu (wd ws k))] 2)).drew).cell? _=_ from new_cells wc _ _ _ rfl j u hj) (by intro u hu;simp at hu;subst hu;rfl) (by have:=auK_len (ws:=ws) (k:=k) hk2 mu;unfold maxLen;simp only[auK];omega) (by have:=auK_len (ws:=ws) (k:=k) hk2 mu;simp only[auK];omega) (by have:=R4.out.bx.lt;show _<=(wc.alloc (.cells #[.int .i64 (mu (wd ws k))] 2)).heap.size;rw[size_alloc'];omega) ?_;intro v' w' hown hgrow0 hat;have hgrow:(wc.alloc (.cells #[.int .i64 (mu (wd ws k))] 2)).grownBy w' (Value.slice a3 n3 c3).ownBlock:=⟨hgrow0.os,hgrow0.tape,hgrow0.output,hgrow0.size,hgrow0.block⟩;obtain⟨ra,rn,rc,hrs⟩:=own_slice hown;subst hrs;have hbx:=(R4.out.box3 _ hgrow).1;have hfz:=(R4.out.box3 _ hgrow).2;have R':Hid _:=R4.out.app3 _ hown hgrow hat;have HGR:Hid _:=hgrow;clear hown hgrow hgrow0 hat)
  all_goals go_wp2
  all_goals go_meet
  all_goals exact⟨rfl,rfl,RS.of3 R'.out HKN.out rfl,R4.out.low3 _ HGR.out HN.out⟩
 case rest=>
 clear HRS HN HW x0
 obtain⟨hs5,hs8,HRS,HN⟩:=hcut
 subst hs5 hs8
 have HW:Hid (Nx w wc):=Below.trans HX2.out (Below.mono HN.out (Nat.le_succ _))
 have x0:True:=trivial
 go_upto_region 9 with fail
 obtain⟨a0,n0,c0,a1,n1,c1,a2,n2,c2,a3,n3,c3,a4,n4,c4,hR0⟩:=HRS.out
 have R4:Hid _:=hR0
 have y4:_=some (Value.slice a4 n4 c4):=hR0.bx.cell (i:=4) rfl
 have z4:=hR0.bx.frozen 4
 have ND:=HNR.out.nd k hlt
 have s1:wc.cell? ⟨bl k,4,none⟩=some (Value.bool (bd (wd ws k))):=cellq HW.out (ND.cell (i:=4) rfl)
 clear hR0 ND
 have y6:((wc.alloc (.cells #[.bool (bd (wd ws k))] 4)).drew).cell? ⟨w.heap.size+1,4,none⟩=some (.slice a4 n4 c4):=cellq (box1 _ _) y4
 go_region_law (refine step_append_at rfl (.tmp 51) (.tmp 56) 26 rfl 4 jj (.bool false) 1 1 Tryz.underlying26 hj0 hj1 hj2 hj3 rfl (by decide) (w.heap.size+1+1) (.slice a4 n4 c4) _ _ (by simp[Act.eval]) (show((wc.alloc (.cells #[.bool (bd (wd ws k))] 4)).drew).ownsRow _ _ _ _ _ _ from World.ownsRow.alloc R4.out.o4 _) ⟨wc.heap.size,0,none⟩ 1 1 [.bool (bd (wd ws k))] (by simp[Act.eval]) rfl (λj u hj=>show((wc.alloc (.cells #[.bool (bd (wd ws k))] 4)).drew).cell? _=_ from new_cells wc _ _ _ rfl j u hj) (by intro u hu;simp at hu;subst hu;rfl) (by have:=auK_lenB (ws:=ws) (k:=k) hk2 bd;unfold maxLen;simp only[auK];omega) (by have:=auK_lenB (ws:=ws) (k:=k) hk2 bd;simp only[auK];omega) (by have:=R4.out.bx.lt;show _<=(wc.alloc (.cells #[.bool (bd (wd ws k))] 4)).heap.size;rw[size_alloc'];omega) ?_;intro v' w' hown hgrow0 hat;have hgrow:(wc.alloc (.cells #[.bool (bd (wd ws k))] 4)).grownBy w' (Value.slice a4 n4 c4).ownBlock:=⟨hgrow0.os,hgrow0.tape,hgrow0.output,hgrow0.size,hgrow0.block⟩;obtain⟨ra,rn,rc,hrs⟩:=own_slice hown;subst hrs;have hbx:=(R4.out.box4 _ hgrow).1;have hfz:=(R4.out.box4 _ hgrow).2;have R':Hid _:=R4.out.app4 _ hown hgrow hat;have HGR:Hid _:=hgrow;clear hown hgrow hgrow0 hat)
 all_goals go_wp2
 all_goals
  go_roundw
  case rel=>exact⟨k+1,by omega,by go_num,RS.of4 R'.out HKN.out rfl,R4.out.low4 _ HGR.out HN.out⟩
  case measure=>simp[intOf];omega
theorem FrA.below {n C:Nat}{bl:Nat->Nat}{w0 w w':World}(h:Below C w0 w)(k:FrA n bl w w')(hC:C<=w.heap.size)(hb:∀t,t<n->C<=bl t):Below C w0 w':=
 ⟨k.os.trans h.os,k.tape.trans h.tape,k.output.trans h.output,Nat.le_trans h.size k.size,λb hlt=>(k.block b (by omega) (λt ht e=>by have:=hb t ht;omega)).trans (h.block b hlt)⟩
theorem TR.nr {ws:List (List Int)}{mu:List Int->Int}{bd:List Int->Bool}{w:World}{bl:Nat->Nat}{fl mv:Nat->Value}(hW:WS ws)(h:TR (autoOf ws mu bd) ws.length ws.length w bl fl mv (numTo ws.length))(hm:mu []=-1)(hb:bd []=false) :
  NR ws.length w bl (λs=>(s:Int)) (λs=>((Wd (autoOf ws mu bd) s).length:Int)) (λs=>lastE (wd ws s)) (λs=>mu (wd ws s)) (λs=>bd (wd ws s)) (λs=>if s=0 then .pointer none else ptr (bl (iat (autoOf ws mu bd).pa s).toNat)) fl mv:=by
 refine⟨λs hs=>?_,h.inj⟩
 have hn:=h.nd s hs
 rw[auto_la hs,auto_mu hs,auto_bd hs,show numTo ws.length s=(s:Int) from if_pos hs] at hn
 by_cases h0:s=0
 ·subst h0
  rw[if_pos rfl,if_pos rfl] at hn
  show Blk w (bl 0) (node _ _ _ (mu (wd ws 0)) (bd (wd ws 0)) _ _ _)
  rw[hW.root,hm,hb]
  rw[hW.root] at hn
  exact hn
 ·rw[if_neg h0,if_neg h0] at hn
  exact hn
def big (rs:List Ru):Prop:=∃ws:List (List Int),2000<ws.length/\AscW ws/\∀y,inW ws y->PW rs rs.length 1 y
structure SN (rs:List Ru)(w:World)(v:Value)(ws:List (List Int))(C:Nat)(bl:Nat->Nat)(len:Nat->Int)(par fl mv:Nat->Value):Prop where
 le:ws.length<=2000
 ok:WS ws
 mem:∀y,inW ws y↔PW rs rs.length 1 y
 own:OwnP C w v ((List.range ws.length).map bl)
 nr:NR ws.length w bl (λs=>(s:Int)) len (λs=>lastE (wd ws s)) (λs=>mustS rs (wd ws s)) (λs=>badS rs (wd ws s)) par fl mv
 pa:∀s,s<ws.length->(par s=.pointer none/\fPa ws (wd ws s)=-1)\/∃t,t<ws.length/\par s=ptr (bl t)/\fPa ws (wd ws s)=(t:Nat)
 fa:∀s,s<ws.length->(fl s=.pointer none/\fFa ws (wd ws s)=-1)\/∃t,t<ws.length/\fl s=ptr (bl t)/\fFa ws (wd ws s)=(t:Nat)
def StE (rs:List Ru)(w':World)(r:Ending):Prop:=
 (rgB rs=false/\r=.returned (.tuple #[.slice none 0 0,.int .i64 12]))\/(rgB rs=true/\big rs/\r=.returned (.tuple #[.slice none 0 0,.int .i64 13])) \/
 (rgB rs=true/\∃(va:Option Addr) (vn vc:Nat) (ws:List (List Int)) (C:Nat) (bl:Nat->Nat) (len:Nat->Int) (par fl mv:Nat->Value),r=.returned (.tuple #[.slice va vn vc,.int .i64 0])/\SN rs w' (.slice va vn vc) ws C bl len par fl mv)
theorem statesOf_any (B:Nat)(v:Value)(rs:List Ru)(w:World)(h0:HRules B w v rs) :
  Calls Tryz.prog 15 #[v] w λr w'=>StE rs w' r/\Nx w w':=by
 have HH:Hid (HRules B w v rs):=h0
 obtain⟨va,vc,rfl,_,_⟩:=h0
 go_enter Tryz.func15,Tryz.ntmps15
 go_wp2_with fail
 refine(validRules_any B _ rs w HH.out).mono ?_
 rintro e w1 ⟨rfl,hx⟩
 have HX1:Hid (Nx w w1):=hx
 clear hx
 cases hg:rgB rs
 case false=>
  have HF:Hid (StE rs w1 (.returned (.tuple #[.slice none 0 0,.int .i64 12]))):=Or.inl ⟨hg,rfl⟩
  clear hg
  go_wp2
  refine bodyPost_ret (v:=.tuple #[.slice none 0 0,.int .i64 12]) (by simp[results,Tryz.results15,go_sem]) rfl ⟨HF.out,HX1.out⟩
 have HG:Hid (rgB rs=true):=hg
 clear hg
 go_wp2_with fail
 refine(growTrie_any B _ rs w1 (HH.out.next HX1.out) HG.out).mono ?_
 rintro r w2 ⟨hr,hx⟩
 have HX2:Hid (Nx w w2):=HX1.out.trans hx
 have HX12:Hid (Nx w1 w2):=hx
 clear hx
 rcases hr with⟨rfl,hb⟩|⟨ws,bl,mv,rfl,hle,hI⟩
 ·have HF:Hid (StE rs w2 (.returned (.tuple #[.slice none 0 0,.int .i64 13]))):=Or.inr (Or.inl ⟨HG.out,hb,rfl⟩)
  clear hb
  go_wp2
  refine bodyPost_ret (v:=.tuple #[.slice none 0 0,.int .i64 13]) (by simp[results,Tryz.results15,go_sem]) rfl ⟨HF.out,HX2.out⟩
 have HI:Hid (GI rs rs.length w1 w2 ws bl mv):=hI
 have HLE:Hid (ws.length<=2000):=hle
 have HMN:Hid (mustS rs []=-1/\muK rs rs.length []=-1):=must_nil HG.out hI.mem
 have HBN:Hid (badS rs []=false/\bdK rs rs.length []=false):=bad_nil HG.out hI.mem
 have HTR:Hid (TR (autoOf ws (muK rs rs.length) (bdK rs rs.length)) ws.length 1 w2 (λs=>bl (wd ws s)) (λ_=>.pointer none) (λs=>mv (wd ws s)) (λ_=>0)):=hI.pt.trie hI.ok HMN.out.2 HBN.out.2
 have HLK:=linkStates_any (autoOf ws (muK rs rs.length) (bdK rs rs.length)) ws.length w2 (λs=>bl (wd ws s)) (λ_=>.pointer none) (λs=>mv (wd ws s)) (auto_trie hI.ok) (auto_asc hI.ok) hle HTR.out
 have hb0:bl (wd ws 0)=w1.heap.size:=by rw[hI.ok.root];exact hI.root
 rw[hb0] at HLK
 have HLK2:Hid (Calls Tryz.prog 32 #[ptr w1.heap.size] w2 λr w'=>∃v fl',r=.returned v/\OwnP (w2.heap.size+1) w' v ((List.range ws.length).map (λs=>bl (wd ws s)))/\TR (autoOf ws (muK rs rs.length) (bdK rs rs.length)) ws.length ws.length w' (λs=>bl (wd ws s)) fl' (λs=>mv (wd ws s)) (numTo ws.length)/\FrA ws.length (λs=>bl (wd ws s)) w2 w'):=HLK
 have HLT:Hid (∀s,s<ws.length->bl (wd ws s)<w2.heap.size+1):=λs hs=>Nat.lt_succ_of_lt (HTR.out.nd s hs).lt
 have HGE:Hid (∀s,s<ws.length->w.heap.size<=bl (wd ws s)):=λs hs=>Nat.le_trans HX1.out.size (hI.pt.ge _ ⟨s,hs,rfl⟩)
 clear HLK hI hle hb0 HTR
 go_wp2_with fail
 refine HLK2.out.mono ?_
 rintro r w3 ⟨sv,fl,rfl,hown,htr,hfr⟩
 have HX3:Hid (Nx w w3):=hfr.below HX2.out HX2.out.size HGE.out
 have HTR:Hid (TR (autoOf ws (muK rs rs.length) (bdK rs rs.length)) ws.length ws.length w3 (λs=>bl (wd ws s)) fl (λs=>mv (wd ws s)) (numTo ws.length)):=htr
 have HNR:=TR.nr HI.out.ok htr HMN.out.2 HBN.out.2
 obtain⟨sa,sc,hsv⟩:=hown.slice
 generalize ((List.range ws.length).map (λs=>bl (wd ws s))).length=sn at hsv
 subst hsv
 obtain⟨m,hm⟩:∃m,ws.length=m+1:=⟨ws.length-1,by have:=HI.out.ok.pos;omega⟩
 have HIN:Hid (Calls Tryz.prog 33 #[.slice sa sn sc] w3 λr w'=>r=.returned (.tuple #[])/\NR ws.length w' (λs=>bl (wd ws s)) (λs=>(s:Int)) (λs=>((Wd (autoOf ws (muK rs rs.length) (bdK rs rs.length)) s).length:Int)) (λs=>lastE (wd ws s)) (λs=>mustS rs (wd ws s)) (λs=>badS rs (wd ws s)) (λs=>if s=0 then .pointer none else ptr (bl (wd ws (iat (autoOf ws (muK rs rs.length) (bdK rs rs.length)).pa s).toNat))) fl (λs=>mv (wd ws s))/\OwnP (w2.heap.size+1) w' (.slice sa sn sc) ((List.range ws.length).map (λs=>bl (wd ws s)))/\FrA ws.length (λs=>bl (wd ws s)) w3 w'):=by
  have hk:=inherit_any m (w2.heap.size+1) (.slice sa sn sc) w3 (λs=>bl (wd ws s)) (λs=>(s:Int)) (λs=>((Wd (autoOf ws (muK rs rs.length) (bdK rs rs.length)) s).length:Int)) (λs=>lastE (wd ws s)) (λs=>muK rs rs.length (wd ws s)) (λs=>mustS rs (wd ws s)) (λs=>bdK rs rs.length (wd ws s)) (λs=>badS rs (wd ws s)) (λs=>if s=0 then .pointer none else ptr (bl (wd ws (iat (autoOf ws (muK rs rs.length) (bdK rs rs.length)).pa s).toNat))) fl (λs=>mv (wd ws s)) (λs=>failOf (autoOf ws (muK rs rs.length) (bdK rs rs.length)) ws.length s)
   (by rw[<-hm];exact hown) (λs hs=>HLT.out s (by omega)) (by rw[<-hm];exact HNR) (by have:=HLE.out;omega)
   (λs h1 hs=>⟨HTR.out.fs s h1 (by omega),(auto_fail HI.out.ok h1 (by omega)).2⟩)
   (by show mustS rs (wd ws 0)=muK rs rs.length (wd ws 0);rw[HI.out.ok.root,HMN.out.1,HMN.out.2]) (by show badS rs (wd ws 0)=bdK rs rs.length (wd ws 0);rw[HI.out.ok.root,HBN.out.1,HBN.out.2])
   (λs h1 hs=>must_step HG.out HI.out.ok HI.out.mem h1 (by omega)) (λs h1 hs=>bad_step HG.out HI.out.ok HI.out.mem h1 (by omega))
  rw[<-hm] at hk
  exact hk
 have HPA:Hid (∀s,s<ws.length->((if s=0 then Value.pointer none else ptr (bl (wd ws (iat (autoOf ws (muK rs rs.length) (bdK rs rs.length)).pa s).toNat)))=.pointer none/\fPa ws (wd ws s)=-1)\/∃t,t<ws.length/\(if s=0 then Value.pointer none else ptr (bl (wd ws (iat (autoOf ws (muK rs rs.length) (bdK rs rs.length)).pa s).toNat)))=ptr (bl (wd ws t))/\fPa ws (wd ws s)=(t:Nat)):=by
  intro s hs
  by_cases h0:s=0
  ·subst h0
   exact Or.inl ⟨if_pos rfl,by unfold fPa;rw[HI.out.ok.root,if_pos rfl]⟩
  ·obtain⟨t,ht,et,hst,_⟩:=HI.out.ok.par (by omega) hs
   refine Or.inr ⟨t,by omega,?_,?_⟩
   ·rw[if_neg h0,auto_pa HI.out.ok (by omega) hs hst,Int.toNat_natCast]
   ·unfold fPa;rw[if_neg (HI.out.ok.ne (by omega) hs),hst]
 have HFA:Hid (∀s,s<ws.length->(fl s=.pointer none/\fFa ws (wd ws s)=-1)\/∃t,t<ws.length/\fl s=ptr (bl (wd ws t))/\fFa ws (wd ws s)=(t:Nat)):=by
  intro s hs
  by_cases h0:s=0
  ·subst h0
   exact Or.inl ⟨HTR.out.fz,by unfold fFa;rw[HI.out.ok.root,if_pos rfl]⟩
  ·have hF:=auto_fail (mu:=muK rs rs.length) (bd:=bdK rs rs.length) HI.out.ok (show 1<=s by omega) hs
   refine Or.inr ⟨failOf (autoOf ws (muK rs rs.length) (bdK rs rs.length)) ws.length s,by omega,HTR.out.fs s (by omega) hs,?_⟩
   unfold fFa;rw[if_neg (HI.out.ok.ne (by omega) hs),hF.1]
 clear hown htr hfr HNR hm HLK2 HTR
 go_wp2_with fail
 refine HIN.out.mono ?_
 rintro r w4 ⟨rfl,hnr,hown,hfr⟩
 have HX4:Hid (Nx w w4):=hfr.below HX3.out HX3.out.size HGE.out
 have HF:Hid (StE rs w4 (.returned (.tuple #[.slice sa sn sc,.int .i64 0]))):=Or.inr (Or.inr ⟨HG.out,_,_,_,ws,_,_,_,_,_,_,rfl,HLE.out,HI.out.ok,HI.out.mem,hown,hnr,HPA.out,HFA.out⟩)
 clear hnr hown hfr HIN HPA HFA
 go_wp2
 refine bodyPost_ret (v:=.tuple #[.slice sa sn sc,.int .i64 0]) (by simp[results,Tryz.results15,go_sem]) rfl ⟨HF.out,HX4.out⟩
def BuiltI (rs:List Ru)(code:Int)(A:Au):Prop:=
 (rgB rs=false/\code=12/\A=auZ)\/(rgB rs=true/\big rs/\code=13/\A=auZ)\/(rgB rs=true/\∃ws:List (List Int),ws.length<=2000/\AscW ws/\(∀y,inW ws y↔PW rs rs.length 1 y)/\code=0/\A=autoOf ws (mustS rs) (badS rs))
theorem built_same {rs:List Ru}{c c':Int}{A A':Au}(h:BuiltIs rs c A)(k:BuiltI rs c' A'):c=c'/\A=A':=by
 rcases h with⟨h1,h2,h3⟩|⟨h1,ws,hI,hc⟩
 ·rcases k with⟨k1,k2,k3⟩|⟨k1,_⟩|⟨k1,_⟩
  ·exact⟨h2.trans k2.symm,h3.trans k3.symm⟩
  ·rw[h1] at k1;cases k1
  ·rw[h1] at k1;cases k1
 ·rcases k with⟨k1,_⟩|⟨_,⟨us,u1,u2,u3⟩,k2,k3⟩|⟨_,us,u1,u2,u3,k2,k3⟩
  ·rw[h1] at k1;cases k1
  ·rcases hc with⟨_,h2,h3⟩|⟨hl,_,_⟩
   ·exact⟨h2.trans k2.symm,h3.trans k3.symm⟩
   ·have:=sub_len u2 hI.asc (λy hy=>hI.all hl y (u3 y hy))
    omega
  ·rcases hc with⟨hl,_,_⟩|⟨hl,h2,h3⟩
   ·have:=sub_len hI.asc u2 (λy hy=>(u3 y).2 (hI.yes y hy))
    omega
   ·have e:ws=us:=same_words hI.asc u2 λy=>⟨λhy=>(u3 y).2 (hI.yes y hy),λhy=>hI.all hl y ((u3 y).1 hy)⟩
    subst e
    exact⟨h2.trans k2.symm,h3.trans k3.symm⟩
def ImE (rs:List Ru)(w w':World)(e:Ending):Prop:=∃(code:Int) (a0:Option Addr) (n0 c0:Nat) (a1:Option Addr) (n1 c1:Nat) (a2:Option Addr) (n2 c2:Nat) (a3:Option Addr) (n3 c3:Nat) (a4:Option Addr) (n4 c4:Nat) (A:Au),e=.returned (.agg #[.int .i64 code,.slice a0 n0 c0,.slice a1 n1 c1,.slice a2 n2 c2,.slice a3 n3 c3,.slice a4 n4 c4])/\BuiltI rs code A/\O5 w.heap.size w' (.slice a0 n0 c0) (.slice a1 n1 c1) (.slice a2 n2 c2) (.slice a3 n3 c3) (.slice a4 n4 c4) A
theorem implBuild_any (B:Nat)(v:Value)(rs:List Ru)(w:World)(h0:HRules B w v rs) :
  Calls Tryz.prog 5 #[v] w λe w'=>ImE rs w w' e/\Nx w w':=by
 have HH:Hid (HRules B w v rs):=h0
 have HX0:Hid (Nx w (w.alloc (.cells #[.int .i64 0,.slice none 0 0,.slice none 0 0,.slice none 0 0,.slice none 0 0,.slice none 0 0] 30))):=box1 _ _
 obtain⟨va,vc,rfl,_,_⟩:=h0
 go_enter Tryz.func5,Tryz.ntmps5
 go_wp2_with fail
 refine(statesOf_any B _ rs _ (HH.out.next HX0.out)).mono ?_
 rintro r w1 ⟨hr,hx⟩
 have BX:=(Blk.new w #[.int .i64 0,.slice none 0 0,.slice none 0 0,.slice none 0 0,.slice none 0 0,.slice none 0 0] 30 _ rfl).next hx
 have HX1:Hid (Nx w w1):=HX0.out.trans hx
 have HLT:Hid (w.heap.size<w1.heap.size):=BX.lt
 clear hx
 rcases hr with⟨hg,rfl⟩|⟨hg,hb,rfl⟩|⟨hg,sa,sn,sc,ws,C,bl,len,par,fl,mv,rfl,hS⟩
 ·have HB:Hid (BuiltI rs 12 auZ):=Or.inl ⟨hg,rfl,rfl⟩
  clear hg
  have k0:_=some (Value.int .i64 0):=BX.cell (i:=0) rfl
  have z0:=BX.frozen 0
  have k1:_=some (Value.slice none 0 0):=BX.cell (i:=1) rfl
  have z1:=BX.frozen 1
  have k2:_=some (Value.slice none 0 0):=BX.cell (i:=2) rfl
  have z2:=BX.frozen 2
  have k3:_=some (Value.slice none 0 0):=BX.cell (i:=3) rfl
  have z3:=BX.frozen 3
  have k4:_=some (Value.slice none 0 0):=BX.cell (i:=4) rfl
  have z4:=BX.frozen 4
  have k5:_=some (Value.slice none 0 0):=BX.cell (i:=5) rfl
  have z5:=BX.frozen 5
  go_wp2
  have BR':=((((((BX).set 0 (.int .i64 12)).set 1 (.slice none 0 0)).set 2 (.slice none 0 0)).set 3 (.slice none 0 0)).set 4 (.slice none 0 0)).set 5 (.slice none 0 0)
  have q0:_=some (Value.int .i64 12):=BR'.cell (i:=0) rfl
  have q1:_=some (Value.slice none 0 0):=BR'.cell (i:=1) rfl
  have q2:_=some (Value.slice none 0 0):=BR'.cell (i:=2) rfl
  have q3:_=some (Value.slice none 0 0):=BR'.cell (i:=3) rfl
  have q4:_=some (Value.slice none 0 0):=BR'.cell (i:=4) rfl
  have q5:_=some (Value.slice none 0 0):=BR'.cell (i:=5) rfl
  clear k0 k1 k2 k3 k4 k5 BR'
  refine bodyPost_ret (v:=.agg #[.int .i64 12,.slice none 0 0,.slice none 0 0,.slice none 0 0,.slice none 0 0,.slice none 0 0]) (by simp[results,Tryz.results5,go_sem,q0,q1,q2,q3,q4,q5]) rfl ?_
  exact⟨⟨12,_,_,_,_,_,_,_,_,_,_,_,_,_,_,_,auZ,rfl,HB.out,O5.nil _ _⟩,(Below.setCell (Below.setCell (Below.setCell (Below.setCell (Below.setCell (Below.setCell HX1.out (Nat.le_refl _) _) (Nat.le_refl _) _) (Nat.le_refl _) _) (Nat.le_refl _) _) (Nat.le_refl _) _) (Nat.le_refl _) _)⟩
 ·have HB:Hid (BuiltI rs 13 auZ):=Or.inr (Or.inl ⟨hg,hb,rfl,rfl⟩)
  clear hg hb
  have k0:_=some (Value.int .i64 0):=BX.cell (i:=0) rfl
  have z0:=BX.frozen 0
  have k1:_=some (Value.slice none 0 0):=BX.cell (i:=1) rfl
  have z1:=BX.frozen 1
  have k2:_=some (Value.slice none 0 0):=BX.cell (i:=2) rfl
  have z2:=BX.frozen 2
  have k3:_=some (Value.slice none 0 0):=BX.cell (i:=3) rfl
  have z3:=BX.frozen 3
  have k4:_=some (Value.slice none 0 0):=BX.cell (i:=4) rfl
  have z4:=BX.frozen 4
  have k5:_=some (Value.slice none 0 0):=BX.cell (i:=5) rfl
  have z5:=BX.frozen 5
  go_wp2
  have BR':=((((((BX).set 0 (.int .i64 13)).set 1 (.slice none 0 0)).set 2 (.slice none 0 0)).set 3 (.slice none 0 0)).set 4 (.slice none 0 0)).set 5 (.slice none 0 0)
  have q0:_=some (Value.int .i64 13):=BR'.cell (i:=0) rfl
  have q1:_=some (Value.slice none 0 0):=BR'.cell (i:=1) rfl
  have q2:_=some (Value.slice none 0 0):=BR'.cell (i:=2) rfl
  have q3:_=some (Value.slice none 0 0):=BR'.cell (i:=3) rfl
  have q4:_=some (Value.slice none 0 0):=BR'.cell (i:=4) rfl
  have q5:_=some (Value.slice none 0 0):=BR'.cell (i:=5) rfl
  clear k0 k1 k2 k3 k4 k5 BR'
  refine bodyPost_ret (v:=.agg #[.int .i64 13,.slice none 0 0,.slice none 0 0,.slice none 0 0,.slice none 0 0,.slice none 0 0]) (by simp[results,Tryz.results5,go_sem,q0,q1,q2,q3,q4,q5]) rfl ?_
  exact⟨⟨13,_,_,_,_,_,_,_,_,_,_,_,_,_,_,_,auZ,rfl,HB.out,O5.nil _ _⟩,(Below.setCell (Below.setCell (Below.setCell (Below.setCell (Below.setCell (Below.setCell HX1.out (Nat.le_refl _) _) (Nat.le_refl _) _) (Nat.le_refl _) _) (Nat.le_refl _) _) (Nat.le_refl _) _) (Nat.le_refl _) _)⟩
 ·have HB:Hid (BuiltI rs 0 (autoOf ws (mustS rs) (badS rs))):=Or.inr (Or.inr ⟨hg,ws,hS.le,hS.ok.asc,hS.mem,rfl,rfl⟩)
  have HS:Hid (SN rs w1 (.slice sa sn sc) ws C bl len par fl mv):=hS
  clear hg hS
  go_wp2_with fail
  refine(writeAuto_any C _ w1 ws (mustS rs) (badS rs) bl len par fl mv HS.out.own HS.out.nr HS.out.le HS.out.ok.pos HS.out.pa HS.out.fa).mono ?_
  rintro r w2 ⟨⟨a0,n0,c0,a1,n1,c1,a2,n2,c2,a3,n3,c3,a4,n4,c4,rfl,hO⟩,hx⟩
  have BX2:=BX.next hx
  have HX2:Hid (Nx w w2):=HX1.out.trans hx
  have HO:Hid (O5 w1.heap.size w2 (.slice a0 n0 c0) (.slice a1 n1 c1) (.slice a2 n2 c2) (.slice a3 n3 c3) (.slice a4 n4 c4) (autoOf ws (mustS rs) (badS rs))):=hO
  clear hx hO BX HS
  have k0:_=some (Value.int .i64 0):=BX2.cell (i:=0) rfl
  have z0:=BX2.frozen 0
  have k1:_=some (Value.slice none 0 0):=BX2.cell (i:=1) rfl
  have z1:=BX2.frozen 1
  have k2:_=some (Value.slice none 0 0):=BX2.cell (i:=2) rfl
  have z2:=BX2.frozen 2
  have k3:_=some (Value.slice none 0 0):=BX2.cell (i:=3) rfl
  have z3:=BX2.frozen 3
  have k4:_=some (Value.slice none 0 0):=BX2.cell (i:=4) rfl
  have z4:=BX2.frozen 4
  have k5:_=some (Value.slice none 0 0):=BX2.cell (i:=5) rfl
  have z5:=BX2.frozen 5
  go_wp2
  have BR':=((((((BX2).set 0 (.int .i64 0)).set 1 (.slice a0 n0 c0)).set 2 (.slice a1 n1 c1)).set 3 (.slice a2 n2 c2)).set 4 (.slice a3 n3 c3)).set 5 (.slice a4 n4 c4)
  have q0:_=some (Value.int .i64 0):=BR'.cell (i:=0) rfl
  have q1:_=some (Value.slice a0 n0 c0):=BR'.cell (i:=1) rfl
  have q2:_=some (Value.slice a1 n1 c1):=BR'.cell (i:=2) rfl
  have q3:_=some (Value.slice a2 n2 c2):=BR'.cell (i:=3) rfl
  have q4:_=some (Value.slice a3 n3 c3):=BR'.cell (i:=4) rfl
  have q5:_=some (Value.slice a4 n4 c4):=BR'.cell (i:=5) rfl
  clear k0 k1 k2 k3 k4 k5 BR'
  refine bodyPost_ret (v:=.agg #[.int .i64 0,.slice a0 n0 c0,.slice a1 n1 c1,.slice a2 n2 c2,.slice a3 n3 c3,.slice a4 n4 c4]) (by simp[results,Tryz.results5,go_sem,q0,q1,q2,q3,q4,q5]) rfl ?_
  have hk5:∀(wq:World) (i:Nat) (u:Value),O5 w1.heap.size wq (.slice a0 n0 c0) (.slice a1 n1 c1) (.slice a2 n2 c2) (.slice a3 n3 c3) (.slice a4 n4 c4) (autoOf ws (mustS rs) (badS rs))->O5 w1.heap.size (wq.setCell ⟨w.heap.size,i,none⟩ u) (.slice a0 n0 c0) (.slice a1 n1 c1) (.slice a2 n2 c2) (.slice a3 n3 c3) (.slice a4 n4 c4) (autoOf ws (mustS rs) (badS rs)):=λwq i u h=>⟨own_store h.o0 HLT.out _ _,own_store h.o1 HLT.out _ _,own_store h.o2 HLT.out _ _,own_store h.o3 HLT.out _ _,own_store h.o4 HLT.out _ _,h.a01,h.a02,h.a03,h.a12,h.a13,h.a23⟩
  exact⟨⟨0,a0,n0,c0,a1,n1,c1,a2,n2,c2,a3,n3,c3,a4,n4,c4,autoOf ws (mustS rs) (badS rs),rfl,HB.out,O5.base (hk5 _ _ _ (hk5 _ _ _ (hk5 _ _ _ (hk5 _ _ _ (hk5 _ _ _ (hk5 _ _ _ HO.out)))))) (Nat.le_of_lt HLT.out)⟩,(Below.setCell (Below.setCell (Below.setCell (Below.setCell (Below.setCell (Below.setCell HX2.out (Nat.le_refl _) _) (Nat.le_refl _) _) (Nat.le_refl _) _) (Nat.le_refl _) _) (Nat.le_refl _) _) (Nat.le_refl _) _)⟩
end Go.Proofs.YtdpfdkihbgmapaaGreat
