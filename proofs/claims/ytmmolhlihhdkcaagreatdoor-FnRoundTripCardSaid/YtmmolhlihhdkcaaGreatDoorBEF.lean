import Derived.Test.YtmmolhlihhdkcaaGreatDoorBDW
import Derived.Laws.AppendOwnNone
namespace Go.Proofs.YtmmolhlihhdkcaaGreatDoor
open Go.RowKit Go.Sort
set_option linter.unusedVariables false
set_option maxRecDepth 1000000
set_option maxHeartbeats 16000000
theorem ONt.ut {C:Nat}{w:World}{v0 v1 v2 v3:Value}{N:Nt}{vn vw vr:Nat->Value}(h:ONt C w v0 v1 v2 v3 N vn vw vr)(z:Int):ONt C w v0 v1 v2 v3 ⟨N.nodes,N.ways,N.rels,N.turns,z⟩ vn vw vr:=⟨h.nodes,h.ways,h.wn,h.ww,h.rels,h.rw_,h.turns,h.apart⟩
theorem S7 {T:Nat->Prop}{w:World}{g o0 o1 o2 o3 o4 o5 o6:Nat}{a0 a1 a2 a3 a4 a5 a6:Value}(hT:T g):Chg T w (((((((w.setCell ⟨g,o0,none⟩ a0).setCell ⟨g,o1,none⟩ a1).setCell ⟨g,o2,none⟩ a2).setCell ⟨g,o3,none⟩ a3).setCell ⟨g,o4,none⟩ a4).setCell ⟨g,o5,none⟩ a5).setCell ⟨g,o6,none⟩ a6):=
 ((((((Chg.set g o0 a0 hT).trans (Chg.set g o1 a1 hT)).trans (Chg.set g o2 a2 hT)).trans (Chg.set g o3 a3 hT)).trans (Chg.set g o4 a4 hT)).trans (Chg.set g o5 a5 hT)).trans (Chg.set g o6 a6 hT)
theorem Q24 (D b C:Nat)(v0 v1 v2 v3:Value)(N:Nt)(vn vw vr:Nat->Value)(S:Src)(w:World)(hS:J8 D w b S)(hN:ONt C w v0 v1 v2 v3 N vn vw vr)(hC:C<=w.heap.size)(hI:U4 900000 (N,S)) :
  Calls Tryz.prog 37 #[.agg #[v0,v1,v2,v3,.int .i64 N.uturn],.pointer (some ⟨b,0,none⟩)] w λe w'=>∃v0 v1 v2 v3 vn vw vr,e=.returned (.agg #[v0,v1,v2,v3,.int .i64 (Tw N S).1.uturn])/\ONt C w' v0 v1 v2 v3 (Tw N S).1 vn vw vr/\J8 D w' b (Tw N S).2/\Chg (λx=>x=b\/C<=x) w w':=by
 have hmx:Tryz.prog.follows .mixedOrders=true:=by kernel_rfl
 have HI:Hid (U4 900000 (N,S)):=hI
 have HOK:Hid (SOk S):=hI.ok
 obtain⟨a0,c0,rfl⟩:=Q3 hN.nodes
 obtain⟨a1,c1,rfl⟩:=Q3 hN.ways
 obtain⟨a2,c2,rfl⟩:=Q3 hN.rels
 obtain⟨a3,c3,rfl⟩:=Q3 hN.turns
 have HEQ:Hid (Tw N S=spT (nv S 20) (spR (nv S 20) (spW (nv S 20) (sp4 (nv S 20) (sp3 (nv S 20) (sp2 (nv S 20) (sp1 (nv S 20) (sp0 (nv S 20) (N,ns S 20))))))))):=rfl
 generalize Tw N S=Y at HEQ ⊢
 have HA:Hid (SPs D b C w ((w.alloc (.cells #[.slice a0 N.nodes.length c0,.slice a1 N.ways.length c1,.slice a2 N.rels.length c2,.slice a3 N.turns.length c3,.int .i64 N.uturn] 28)).alloc (.cells #[.slice none 0 0,.slice none 0 0,.slice none 0 0,.slice none 0 0,.int .i64 0] 28)) (.slice a0 N.nodes.length c0) (.slice a1 N.ways.length c1) (.slice a2 N.rels.length c2) (.slice a3 N.turns.length c3) N S vn vw vr):=by
  have hx:=(Qd w (.cells #[.slice a0 N.nodes.length c0,.slice a1 N.ways.length c1,.slice a2 N.rels.length c2,.slice a3 N.turns.length c3,.int .i64 N.uturn] 28)).trans (Qd _ (.cells #[.slice none 0 0,.slice none 0 0,.slice none 0 0,.slice none 0 0,.int .i64 0] 28))
  exact⟨Chg.nx hx,hS.next hx,(BT.new w _ _ _ rfl).alloc _,BT.new _ _ _ _ (by rw[Q7]),hN.next hx,hC⟩
 clear hS hN hI hC
 go_enter Tryz.func37,Tryz.ntmps37
 go_upto_region 1 with fail
 generalize ((w.alloc (.cells #[.slice a0 N.nodes.length c0,.slice a1 N.ways.length c1,.slice a2 N.rels.length c2,.slice a3 N.turns.length c3,.int .i64 N.uturn] 28)).alloc (.cells #[.slice none 0 0,.slice none 0 0,.slice none 0 0,.slice none 0 0,.int .i64 0] 28))=wA at *
 go_wp2_with fail
 refine(Qe D b S 20 wA HA.out.src HOK.out (by omega)).mono ?_
 rintro e wc ⟨rfl,hs1,hc1⟩
 have HX0:=Q0 (HA.out.drawn hs1 hc1).x
 have HI0:Hid (U4 900000 (N,ns S 20)):=⟨Qj HOK.out 20,HI.out.n1,HI.out.n2,HI.out.wl,HI.out.wy,HI.out.rl,HI.out.rw_,HI.out.tl⟩
 clear hs1 hc1 HA HI HOK
 generalize nv S 20=k at *
 generalize hX0:(N,ns S 20)=X0 at HEQ HX0 HI0
 clear hX0
 go_upto_if 13 with fail
 go_cut [] from 12 to 14 (λwq=>Hid (SPx D b C w (wq) (sp0 k X0)))
 case first=>
  by_cases hk:k=0
  ·subst hk
   have HR:Hid (SPx D b C w (wc.setCell ⟨w.heap.size,4,none⟩ (.int .i64 1048577)) (sp0 0 X0)):=by
    unfold Hid
    obtain⟨v0,v1,v2,v3,vn,vw,vr,hX⟩:=HX0.out
    obtain⟨N,S⟩:=X0
    replace hX:SPs D b C w wc v0 v1 v2 v3 N S vn vw vr:=hX
    clear HX0
    exact⟨_,_,_,_,_,_,_,hX.lay 4 _ (hX.net.ut 1048577) rfl⟩
   obtain⟨v0,v1,v2,v3,vn,vw,vr,hX⟩:=HX0.out
   obtain⟨N,S⟩:=X0
   replace hX:SPs D b C w wc v0 v1 v2 v3 N S vn vw vr:=hX
   clear HX0
   have b4:=hX.box.blk.cell (i:=4) rfl
   have fz4:=hX.box.blk.frozen 4
   clear hX
   go_wp2
   go_meet
   exact HR
  ·have HR:Hid (SPx D b C w (wc) (sp0 k X0)):=by unfold Hid sp0;rw[if_neg hk];exact HX0.out
   have hkb:(k==0)=false:=by simp[hk]
   clear HX0 hk
   go_wp2
   go_meet
   exact HR
 case rest=>
 have HI1:Hid (U4 900000 (sp0 k X0)):=Qdu HI0.out
 clear HX0 HI0
 generalize hX1:sp0 k X0=X1 at *
 clear hX1 X0
 have HX1:=Q0 hcut.out
 clear hcut
 go_upto_if 16 with fail
 go_cut [] from 15 to 17 (λwq=>Hid (SPx D b C w (wq) (sp1 k X1)))
 case first=>
  by_cases hk:k=1
  ·subst hk
   have HR:Hid (SPx D b C w (wc.setCell ⟨w.heap.size,4,none⟩ (.int .i64 (-1))) (sp1 1 X1)):=by
    unfold Hid
    obtain⟨v0,v1,v2,v3,vn,vw,vr,hX⟩:=HX1.out
    obtain⟨N,S⟩:=X1
    replace hX:SPs D b C w wc v0 v1 v2 v3 N S vn vw vr:=hX
    clear HX1
    exact⟨_,_,_,_,_,_,_,hX.lay 4 _ (hX.net.ut (-1)) rfl⟩
   obtain⟨v0,v1,v2,v3,vn,vw,vr,hX⟩:=HX1.out
   obtain⟨N,S⟩:=X1
   replace hX:SPs D b C w wc v0 v1 v2 v3 N S vn vw vr:=hX
   clear HX1
   have b4:=hX.box.blk.cell (i:=4) rfl
   have fz4:=hX.box.blk.frozen 4
   clear hX
   go_wp2
   go_meet
   exact HR
  ·have HR:Hid (SPx D b C w (wc) (sp1 k X1)):=by unfold Hid sp1;rw[if_neg hk];exact HX1.out
   have hkb:(k==1)=false:=by simp[hk]
   clear HX1 hk
   go_wp2
   go_meet
   exact HR
 case rest=>
 have HI2:Hid (U4 900000 (sp1 k X1)):=Qdt HI1.out
 clear HX1 HI1
 generalize hX2:sp1 k X1=X2 at *
 clear hX2 X1
 have HX2:=Q0 hcut.out
 clear hcut
 obtain⟨bq,hbq⟩:∃x,x=decide (k=2/\1<X2.1.nodes.length):=⟨_,rfl⟩
 have HBQ:Hid (bq=decide (k=2/\1<X2.1.nodes.length)):=hbq
 clear hbq
 go_upto_region 6 with fail
 go_cut [25] from 18 to 25 (λs wq=>s=.bool bq/\wq=wc)
 case first=>
  obtain⟨v0,v1,v2,v3,vn,vw,vr,hX⟩:=HX2.out
  obtain⟨N,S⟩:=X2
  replace hX:SPs D b C w wc v0 v1 v2 v3 N S vn vw vr:=hX
  clear HX2
  obtain⟨a,c,rfl⟩:=Q3 hX.net.nodes
  have b0:=hX.box.blk.cell (i:=0) rfl
  clear hX HI2
  replace HBQ:Hid (bq=decide (k=2/\1<N.nodes.length)):=HBQ
  generalize N.nodes.length=n at *
  by_cases hk:k=2
  ·by_cases hn:1<n
   ·have HB:Hid (bq=true):=by unfold Hid;rw[HBQ.out];simp[hk,hn]
    have hi:(1:Int)<(n:Int):=by omega
    clear HBQ
    subst hk
    go_wp2
    go_meet
    exact⟨by rw[HB.out],rfl⟩
   ·have HB:Hid (bq=false):=by unfold Hid;rw[HBQ.out];simp[hn]
    have hi:¬(1:Int)<(n:Int):=by omega
    clear HBQ
    subst hk
    go_wp2
    go_meet
    exact⟨by rw[HB.out],rfl⟩
  ·have HB:Hid (bq=false):=by unfold Hid;rw[HBQ.out];simp[hk]
   have hk':(k==2)=false:=by simp[hk]
   clear HBQ
   go_wp2
   go_meet
   exact⟨by rw[HB.out],rfl⟩
 case rest=>
 obtain⟨rfl,rfl⟩:=hcut
 go_upto_if 25 with fail
 go_cut [] from 18 to 32 (λwq=>Hid (SPx D b C w (wq) (sp2 k X2)))
 case first=>
  cases bq with
  |true=>
   go_upto_region 7 with fail
   have hh:k=2/\1<X2.1.nodes.length:=of_decide_eq_true HBQ.out.symm
   obtain⟨v0,v1,v2,v3,vn,vw,vr,hX⟩:=HX2.out
   obtain⟨N,S⟩:=X2
   replace hX:SPs D b C w wc v0 v1 v2 v3 N S vn vw vr:=hX
   clear HX2
   replace hh:k=2/\1<N.nodes.length:=hh
   have hD:=hX.next (show Nx wc wc.drew from(Below.refl _ _).drew)
   clear hX
   obtain⟨g,c,cs,rfl,hg,-,hbt,hcc⟩:=hD.net.nodes.open (by omega)
   have HR:Hid (SPx D b C w (wc.drew.setCell ⟨g,0,none⟩ (.int .i64 (iat N.nodes 1))) (sp2 k (N,S))):=by
    unfold Hid sp2
    rw[if_pos hh]
    exact(hD.write hbt (by decide) hg (Chg.set _ _ _ rfl) (hD.net.setNode rfl _) rfl).x
   have z0:=hcc 0 (by omega)
   have HZ1:=Q0 (hcc 1 hh.2)
   have b0:=hD.box.blk.cell (i:=0) rfl
   have fzg:=hbt.blk.frozen 0
   have hn1:=hh.2
   have hni:(1:Int)<(N.nodes.length:Int):=by omega
   have hn0:¬N.nodes.length=0:=by omega
   clear hcc hbt hg HBQ HI2 hh
   generalize iat N.nodes 1=z at *
   generalize iat N.nodes 0=zz at *
   generalize N.nodes.length=n at *
   have HSS:Hid ((λq=>q.cell? ⟨w.heap.size,0,none⟩=some (.slice (some ⟨g,0,none⟩) n c)/\q.cell? ⟨g,1,none⟩=some (.int .i64 z)) wc.drew):=⟨b0,HZ1.out⟩
   clear b0 hD
   refine(wpIn_wide (n:=9)).1 ?_
   refine Q9 (c:=7) (S:=λq=>q.cell? ⟨w.heap.size,0,none⟩=some (.slice (some ⟨g,0,none⟩) n c)/\q.cell? ⟨g,1,none⟩=some (.int .i64 z)) hmx (by kernel_rfl) (λhw hcl=>?_)
   generalize wc.drew=wd at *
   refine tq (i:=0) (v:=.pointer (some ⟨w.heap.size,0,none⟩)) (λhcl=>?_)
   refine tq (i:=1) (v:=.slice (some ⟨g,0,none⟩) n c) (λhcl=>?_)
   refine tq (i:=2) (v:=.pointer (some ⟨w.heap.size,0,none⟩)) (λhcl=>?_)
   refine tq (i:=3) (v:=.slice (some ⟨g,0,none⟩) n c) (λhcl=>?_)
   refine tq (i:=4) (v:=.pointer (some ⟨g,1,none⟩)) (λhcl=>?_)
   refine tq (i:=5) (v:=.int .i64 z) (λhcl=>?_)
   refine tq (i:=6) (v:=.pointer (some ⟨g,0,none⟩)) (λhcl=>?_)
   refine Qk (i:=7) (by kernel_rfl) (wpOpIn_step rfl (λK hK=>?_))
   go_simp
   refine hK _ _ ⟨Or.inl (by decide),?_⟩
   clear hK K
   refine Qi (by kernel_rfl) ?_ _
   clear hw hcl HSS z0 fzg
   go_wp2
   go_meet
   exact HR
  |false=>
   have hk:¬(k=2/\1<X2.1.nodes.length):=of_decide_eq_false HBQ.out.symm
   have HR:Hid (SPx D b C w (wc) (sp2 k X2)):=by unfold Hid sp2;rw[if_neg hk];exact HX2.out
   clear HX2 hk HBQ
   go_wp2
   go_meet
   exact HR
 case rest=>
 have HI3:Hid (U4 900000 (sp2 k X2)):=Qds HI2.out
 clear HBQ
 clear HX2 HI2
 generalize hX3:sp2 k X2=X3 at *
 clear hX3 X2
 have HX3:=Q0 hcut.out
 clear hcut
 obtain⟨bq,hbq⟩:∃x,x=decide (k=3/\0<X3.1.nodes.length):=⟨_,rfl⟩
 have HBQ:Hid (bq=decide (k=3/\0<X3.1.nodes.length)):=hbq
 clear hbq
 go_upto_region 8 with fail
 go_cut [40] from 33 to 40 (λs wq=>s=.bool bq/\wq=wc)
 case first=>
  obtain⟨v0,v1,v2,v3,vn,vw,vr,hX⟩:=HX3.out
  obtain⟨N,S⟩:=X3
  replace hX:SPs D b C w wc v0 v1 v2 v3 N S vn vw vr:=hX
  clear HX3
  obtain⟨a,c,rfl⟩:=Q3 hX.net.nodes
  have b0:=hX.box.blk.cell (i:=0) rfl
  clear hX HI3
  replace HBQ:Hid (bq=decide (k=3/\0<N.nodes.length)):=HBQ
  generalize N.nodes.length=n at *
  by_cases hk:k=3
  ·by_cases hn:0<n
   ·have HB:Hid (bq=true):=by unfold Hid;rw[HBQ.out];simp[hk,hn]
    have hi:(0:Int)<(n:Int):=by omega
    clear HBQ
    subst hk
    go_wp2
    go_meet
    exact⟨by rw[HB.out],rfl⟩
   ·have HB:Hid (bq=false):=by unfold Hid;rw[HBQ.out];simp[hn]
    have hi:¬(0:Int)<(n:Int):=by omega
    clear HBQ
    subst hk
    go_wp2
    go_meet
    exact⟨by rw[HB.out],rfl⟩
  ·have HB:Hid (bq=false):=by unfold Hid;rw[HBQ.out];simp[hk]
   have hk':(k==3)=false:=by simp[hk]
   clear HBQ
   go_wp2
   go_meet
   exact⟨by rw[HB.out],rfl⟩
 case rest=>
 obtain⟨rfl,rfl⟩:=hcut
 go_upto_if 40 with fail
 go_cut [] from 33 to 50 (λwq=>Hid (SPx D b C w (wq) (sp3 k X3)))
 case first=>
  cases bq with
  |true=>
   go_upto_region 9 with fail
   have hh:k=3/\0<X3.1.nodes.length:=of_decide_eq_true HBQ.out.symm
   have HOK:Hid (SOk X3.2):=HI3.out.ok
   obtain⟨v0,v1,v2,v3,vn,vw,vr,hX⟩:=HX3.out
   obtain⟨N,S⟩:=X3
   replace hX:SPs D b C w wc v0 v1 v2 v3 N S vn vw vr:=hX
   clear HX3
   replace hh:k=3/\0<N.nodes.length:=hh
   replace HOK:Hid (SOk S):=HOK
   have HD:=Q0 (hX.next (show Nx wc wc.drew from(Below.refl _ _).drew))
   clear hX
   obtain⟨m,hm⟩:∃m,N.nodes.length=m+1:=⟨N.nodes.length-1,by omega⟩
   have hml:=HI3.out.n2
   replace hml:N.nodes.length<=900000:=hml
   have HML:Hid (m<=900000):=by unfold Hid;omega
   have HE:Hid (∃g c,v0=.slice (some ⟨g,0,none⟩) (m+1) c/\C<=g):=by
    obtain⟨g,c,cs,e,hg,-⟩:=HD.out.net.nodes.open (by omega)
    exact⟨g,c,by rw[e,hm],hg⟩
   obtain⟨g,c,rfl,hg⟩:=HE.out
   have HH:Hid (∀w8,SPs D b C w w8 (.slice (some ⟨g,0,none⟩) (m+1) c) v1 v2 v3 N (ns S 2) vn vw vr->∃z cs,w8.cell? ⟨g,m,none⟩=some (.int .i64 z)/\BT w8 g cs 2/\SPx D b C w (w8.setCell ⟨g,m,none⟩ (.int .i64 (1048576+nv S 2))) (sp3 k (N,S))):=λw8 h8=>by
    obtain⟨g',c',cs,e,hg',-,hbt,hcc⟩:=h8.net.nodes.open (by omega)
    simp only[Value.slice.injEq,Option.some.injEq,Addr.mk.injEq] at e
    obtain⟨⟨rfl,_⟩,_⟩:=e
    refine⟨_,cs,hcc m (by omega),hbt,?_⟩
    unfold sp3
    rw[if_pos hh]
    have e:N.nodes.length-1=m:=by omega
    simp only[e]
    exact(h8.write hbt (by decide) hg (Chg.set _ _ _ rfl) (h8.net.setNode hm _) rfl).x
   have HV:=Q0 (Qt HOK.out 2)
   clear hm hml hh hg HE HI3 HBQ
   have HSS:Hid ((λq=>q.cell? ⟨w.heap.size,0,none⟩=some (.slice (some ⟨g,0,none⟩) (m+1) c)) wc.drew):=HD.out.box.blk.cell (i:=0) rfl
   have hv1:=HV.out.1
   have hv2:=HV.out.2 (by omega)
   have hml:=HML.out
   have hw1:IntKind.i64.wrap (1048576+nv S 2)=1048576+nv S 2:=by rw[IntKind.wrap_i64];omega
   have hw2:IntKind.i64.wrap (m:Int)=(m:Int):=by rw[IntKind.wrap_i64];omega
   refine(wpIn_wide (n:=9)).1 ?_
   refine Q9 (c:=10) (S:=λq=>q.cell? ⟨w.heap.size,0,none⟩=some (.slice (some ⟨g,0,none⟩) (m+1) c)) hmx (by kernel_rfl) (λhw hcl=>?_)
   generalize wc.drew=wd at *
   refine tq (i:=0) (v:=.pointer (some ⟨w.heap.size,0,none⟩)) (λhcl=>?_)
   refine tq (i:=1) (v:=.slice (some ⟨g,0,none⟩) (m+1) c) (λhcl=>?_)
   refine tq (i:=2) (v:=.pointer (some ⟨w.heap.size,0,none⟩)) (λhcl=>?_)
   refine tq (i:=3) (v:=.slice (some ⟨g,0,none⟩) (m+1) c) (λhcl=>?_)
   refine tq (i:=4) (v:=.int .i64 ((m+1):Int)) (λhcl=>?_)
   refine tq (i:=5) (v:=.int .i64 (m:Int)) (λhcl=>?_)
   refine tq (i:=6) (v:=.pointer (some ⟨b,0,none⟩)) (λhcl=>?_)
   refine Q5 (i:=7) (by kernel_rfl) hcl (λhcl=>wpOpIn_step rfl (λK hK=>?_))
   go_simp
   refine⟨trivial,(callsIn_wide.2 (Qe D b S 2 _ HD.out.src HOK.out (by omega))).mono ?_⟩
   rintro e7 w7 ⟨rfl,hs7,hc7⟩
   have H7:=Q0 (HD.out.drawn hs7 hc7)
   clear hs7 hc7
   have HSS:Hid ((λq=>q.cell? ⟨w.heap.size,0,none⟩=some (.slice (some ⟨g,0,none⟩) (m+1) c)) w7):=H7.out.box.blk.cell (i:=0) rfl
   refine hK _ _ ⟨Or.inr HSS.out,?_⟩
   clear hK K
   refine tq (i:=8) (v:=.int .i64 (1048576+nv S 2)) (λhcl=>?_)
   refine tk (i:=9) (v:=.pointer (some ⟨g,m,none⟩)) hw hcl ⟨Or.inl ⟨by kernel_rfl,?y9⟩,λ_=>rfl⟩ HSS.out (λhcl=>?_)
   case y9=>
    rintro q c1
    go_simp
    intro hx;omega
   obtain⟨z,cs,z0,hbt,hr⟩:=HH.out _ H7.out
   have HR:=Q0 hr
   have fzg:=hbt.blk.frozen m
   clear hr hbt HH H7 HD
   refine Qk (i:=10) (by kernel_rfl) (wpOpIn_step rfl (λK hK=>?_))
   go_simp
   refine hK _ _ ⟨Or.inl (by decide),?_⟩
   clear hK K
   refine Qi (by kernel_rfl) ?_ _
   clear hw hcl HSS z0 fzg hv1 hv2 hw1 hw2 hml
   go_wp2
   go_meet
   exact HR
  |false=>
   have hk:¬(k=3/\0<X3.1.nodes.length):=of_decide_eq_false HBQ.out.symm
   have HR:Hid (SPx D b C w (wc) (sp3 k X3)):=by unfold Hid sp3;rw[if_neg hk];exact HX3.out
   clear HX3 hk HBQ
   go_wp2
   go_meet
   exact HR
 case rest=>
 have HI4:Hid (U4 900000 (sp3 k X3)):=Qdr HI3.out
 clear HBQ
 clear HX3 HI3
 generalize hX4:sp3 k X3=X4 at *
 clear hX4 X3
 have HX4:=Q0 hcut.out
 clear hcut
 go_upto_if 52 with fail
 go_cut [] from 51 to 57 (λwq=>Hid (SPx D b C w (wq) (sp4 k X4)))
 case first=>
  by_cases hk:k=4
  ·subst hk
   have hml:=HI4.out.n2
   have hm1:=HI4.out.n1
   obtain⟨v0,v1,v2,v3,vn,vw,vr,hX⟩:=HX4.out
   obtain⟨N,S⟩:=X4
   replace hX:SPs D b C w wc v0 v1 v2 v3 N S vn vw vr:=hX
   clear HX4
   replace hml:N.nodes.length<=900000:=hml
   replace hm1:1<=N.nodes.length:=hm1
   clear HI4
   obtain⟨g,c,rfl⟩:=hX.s0 hm1
   have hA:=hX.next (Qd wc (.cells #[.int .i64 (-1)] 2))
   have b0:=hA.box.blk.cell (i:=0) rfl
   have HA:=Q0 hA
   have HO:Hid (Qb C (wc.alloc (.cells #[.int .i64 (-1)] 2)) (.slice (some ⟨wc.heap.size,0,none⟩) 1 1) [-1]):=Qe4 (by have:=hX.low;have:=hX.chg.size;omega)
   have hz:C<=(wc.alloc (.cells #[.int .i64 (-1)] 2)).heap.size:=by have:=hA.low;have:=hA.chg.size;omega
   have HX:=Q0 hX
   clear hA hX
   go_wp2_with (at_builtin;refine Q2x rfl _ _ rfl C 1 N.nodes.length C g 0 c (.slice (some ⟨wc.heap.size,0,none⟩) 1 1) [-1] N.nodes _ rfl HO.out rfl HA.out.net.nodes.held rfl rfl (by omega) hz ?_)
   intro a8 c8 w8 r1 r2 r3
   have H8:=Q0 (HX.out.next (Q3s r2))
   have HA8:=Q0 (Qao r3)
   have R:SPx D b C w (w8.setCell ⟨w.heap.size,0,none⟩ (.slice a8 (1+N.nodes.length) c8)) (sp4 4 (N,S)):=(H8.out.lay 0 _ (H8.out.net.newV0 r1 (Fr.fresh HX.out.net HA8.out)) rfl).x
   have HR:=Q0 R
   have y0:=H8.out.box.blk.cell (i:=0) rfl
   have fz0:=H8.out.box.blk.frozen 0
   clear R r1 r2 r3 H8 HA8 HX HA HO hz b0
   go_wp2
   go_meet
   exact HR
  ·have HR:Hid (SPx D b C w (wc) (sp4 k X4)):=by unfold Hid sp4;rw[if_neg hk];exact HX4.out
   have hkb:(k==4)=false:=by simp[hk]
   clear HX4 hk
   go_wp2
   go_meet
   exact HR
 case rest=>
 have HI5:Hid (U4 900001 (sp4 k X4)):=Qdq HI4.out
 clear HX4 HI4
 generalize hX5:sp4 k X4=X5 at *
 clear hX5 X4
 have HX5:=Q0 hcut.out
 clear hcut
 obtain⟨a0,c0,a1,c1,a2,c2,a3,c3,B0,B1,B2,B3⟩:=HX5.out.box
 clear B0 B2 B3
 generalize hlen:X5.1.ways.length=nw at B1
 have HNW:Hid (X5.1.ways.length=nw):=hlen
 clear hlen
 go_upto_if 61 with fail
 go_cut [] from 58 to 175 (λwq=>Hid (SPx D b C w (wq) (spW k X5)))
 case first=>
  by_cases h0:nw=0
  ·have HR:Hid (SPx D b C w (wc) (spW k X5)):=by unfold Hid spW;rw[if_pos (by rw[HNW.out];exact h0)];exact HX5.out
   subst h0
   clear HX5 HI5 HNW
   go_wp2
   go_meet
   exact HR
  have h0':0<nw:=by omega
  obtain⟨v0,v1,v2,v3,vn,vw,vr,hX⟩:=HX5.out
  obtain⟨N,S⟩:=X5
  replace hX:SPs D b C w wc v0 v1 v2 v3 N S vn vw vr:=hX
  replace HNW:Hid (N.ways.length=nw):=HNW
  replace HI5:Hid (U4 900001 (N,S)):=HI5
  have HNE:Hid (¬N.ways.length=0):=by unfold Hid;rw[HNW.out];exact h0
  have hwl:=HI5.out.wl
  replace hwl:N.ways.length<=900000:=hwl
  rw[HNW.out] at hwl
  obtain⟨gw,c1,e1⟩:=hX.s1 (by have:=HNE.out;omega)
  rw[HNW.out] at e1
  subst e1
  have HX:=Q0 hX
  have HOK:Hid (SOk S):=HI5.out.ok
  clear HX5 hX
  go_wp2_with fail
  refine(Qe D b S nw wc HX.out.src HOK.out (by omega)).mono ?_
  rintro e w2 ⟨rfl,hs2,hc2⟩
  have H2:=Q0 (HX.out.drawn hs2 hc2)
  have HO2:Hid (SOk (ns S nw)):=Qj HOK.out _
  have hiv:=Qt HOK.out nw
  obtain⟨i,hi⟩:∃i:Nat,nv S nw=(i:Int):=⟨(nv S nw).toNat,by omega⟩
  have HIV:Hid ((nv S N.ways.length).toNat=i):=by unfold Hid;rw[HNW.out,hi];simp
  have hin:i<nw:=by have:=hiv.2 (by omega);omega
  have HIN:Hid (i<N.ways.length):=by unfold Hid;rw[HNW.out];exact hin
  rw[hi]
  have HY:=Q0 (HI5.out.wy i HIN.out)
  replace HY:Hid ((1<=(wat N.ways i).nodes.length/\(wat N.ways i).nodes.length<=900000)/\1<=(wat N.ways i).weights.length/\(wat N.ways i).weights.length<=900000):=HY
  obtain⟨mn,hmn⟩:∃m,(wat N.ways i).nodes.length=m+1:=⟨(wat N.ways i).nodes.length-1,by have:=HY.out;omega⟩
  obtain⟨mv,hmv⟩:∃m,(wat N.ways i).weights.length=m+1:=⟨(wat N.ways i).weights.length-1,by have:=HY.out;omega⟩
  obtain⟨gn,cn,csn,en,hgn,hcn,-⟩:=(H2.out.net.wn i HIN.out).open (by omega)
  obtain⟨gv,cv,csv,ev,hgv,hcv,-⟩:=(H2.out.net.ww i HIN.out).open (by omega)
  rw[hmn] at en hcn
  rw[hmv] at ev hcv
  have HMN:Hid ((wat N.ways i).nodes.length=mn+1/\mn<=900000):=⟨hmn,by have:=HY.out;omega⟩
  have HMV:Hid ((wat N.ways i).weights.length=mv+1/\mv<=900000):=⟨hmv,by have:=HY.out;omega⟩
  have hmn9:=HMN.out.2
  have hmv9:=HMV.out.2
  have HVN:Hid (vn i=.slice (some ⟨gn,0,none⟩) (mn+1) cn):=en
  have HVV:Hid (vw i=.slice (some ⟨gv,0,none⟩) (mv+1) cv):=ev
  have HSN:Hid (∀q S',SPs D b C w q v0 (.slice (some ⟨gw,0,none⟩) nw c1) v2 v3 N S' vn vw vr->q.cell? ⟨w.heap.size,1,none⟩=some (.slice (some ⟨gw,0,none⟩) nw c1)/\q.cell? ⟨gw,i*4+2,none⟩=some (.slice (some ⟨gn,0,none⟩) (mn+1) cn)/\q.cell? ⟨gw,i*4+3,none⟩=some (.slice (some ⟨gv,0,none⟩) (mv+1) cv)/\(∃cs,BT q gw cs 45)/\C<=gw):=λq S' h=>by
   obtain⟨k1,k2,-,k3,k4⟩:=h.net.way HIN.out
   rw[HVN.out] at k3
   rw[HVV.out] at k4
   exact⟨h.box.blk.cell (i:=1) rfl,k3,k4,k2,k1⟩
  have HNN:Hid (∀q S',SPs D b C w q v0 (.slice (some ⟨gw,0,none⟩) nw c1) v2 v3 N S' vn vw vr->∀j,j<mn+1->C<=gn/\(∃cs,BT q gn cs 2)/\q.cell? ⟨gn,j,none⟩=some (.int .i64 (iat (wat N.ways i).nodes j))):=λq S' h j hj=>by
   have k:=h.net.wn i HIN.out
   rw[HVN.out] at k
   exact k.in (by rw[HMN.out.1];exact hj)
  have HVW:Hid (∀q S',SPs D b C w q v0 (.slice (some ⟨gw,0,none⟩) nw c1) v2 v3 N S' vn vw vr->∀j,j<mv+1->C<=gv/\(∃cs,BT q gv cs 2)/\q.cell? ⟨gv,j,none⟩=some (.int .i64 (iat (wat N.ways i).weights j))):=λq S' h j hj=>by
   have k:=h.net.ww i HIN.out
   rw[HVV.out] at k
   exact k.in (by rw[HMV.out.1];exact hj)
  have HNS:Hid (ns S N.ways.length=ns S nw):=by unfold Hid;rw[HNW.out]
  have hii:IntKind.i64.wrap (i:Int)=(i:Int):=by rw[IntKind.wrap_i64];omega
  clear hs2 hc2 hiv hi hmn hmv en ev hgn hgv HX HOK HY csn csv
  generalize ns S nw=S2 at *
  by_cases hk5:k=5
  ·subst hk5
   go_upto_region 15 with fail
   have HD:=Q0 (H2.out.next (show Nx w2 w2.drew from(Below.refl _ _).drew))
   have HSS:Hid ((λq=>q.cell? ⟨w.heap.size,1,none⟩=some (.slice (some ⟨gw,0,none⟩) nw c1)/\q.cell? ⟨gw,i*4+2,none⟩=some (.slice (some ⟨gn,0,none⟩) (mn+1) cn)) w2.drew):=by
    obtain⟨k1,k2,-⟩:=HSN.out _ _ HD.out
    exact⟨k1,k2⟩
   obtain⟨-,k2,-,⟨cs5,hb5⟩,hC5⟩:=HSN.out _ _ HD.out
   have HR:Hid (SPx D b C w (w2.drew.setCell ⟨gw,i*4+2,none⟩ (.slice (some ⟨gn,0,none⟩) mn cn)) (spW 5 (N,S))):=by
    unfold Hid
    rw[Ky HNE.out (by decide) HIV.out]
    rw[HNS.out]
    have ho:=HD.out.net.wn i HIN.out
    rw[HVN.out] at ho
    have e:(wat N.ways i).nodes.length-1=mn:=by rw[HMN.out.1];omega
    have k:=HD.out.write hb5 (by decide) hC5 (Chg.set _ _ _ rfl) (HD.out.net.putN HNW.out HIN.out (ho.short HMN.out.1) (λy hy=>Or.inl (by rw[HVN.out];exact hy))) rfl
    rw[<-e] at k
    have k':=k.x
    rw[e] at k'
    simp only[Iu,e]
    exact k'
   have fz5:=hb5.blk.frozen (i*4+2)
   have hcc:mn<=cn:=by omega
   have hcd:(mn:Int)<=(cn:Int):=by omega
   have hm0:¬(mn:Int)<0:=by omega
   have hwm:IntKind.i64.wrap (mn:Int)=(mn:Int):=by rw[IntKind.wrap_i64];omega
   clear HSN HVW HNN H2 hb5 hC5 HD
   refine(wpIn_wide (n:=9)).1 ?_
   refine Q9 (c:=20) (S:=λq=>q.cell? ⟨w.heap.size,1,none⟩=some (.slice (some ⟨gw,0,none⟩) nw c1)/\q.cell? ⟨gw,i*4+2,none⟩=some (.slice (some ⟨gn,0,none⟩) (mn+1) cn)) hmx (by kernel_rfl) (λhw hcl=>?_)
   generalize w2.drew=wd at *
   refine tq (i:=0) (v:=.pointer (some ⟨w.heap.size,1,none⟩)) (λhcl=>?_)
   refine tq (i:=1) (v:=.slice (some ⟨gw,0,none⟩) nw c1) (λhcl=>?_)
   refine tq (i:=2) (v:=.int .i64 (i:Int)) (λhcl=>?_)
   refine tq (i:=3) (v:=.pointer (some ⟨w.heap.size,1,none⟩)) (λhcl=>?_)
   refine tq (i:=4) (v:=.slice (some ⟨gw,0,none⟩) nw c1) (λhcl=>?_)
   refine tq (i:=5) (v:=.int .i64 (i:Int)) (λhcl=>?_)
   refine tq (i:=6) (v:=.pointer (some ⟨gw,i*4,none⟩)) (λhcl=>?_)
   refine tq (i:=7) (v:=.pointer (some ⟨gw,i*4+2,none⟩)) (λhcl=>?_)
   refine tq (i:=8) (v:=.slice (some ⟨gn,0,none⟩) (mn+1) cn) (λhcl=>?_)
   refine tq (i:=9) (v:=.pointer (some ⟨w.heap.size,1,none⟩)) (λhcl=>?_)
   refine tq (i:=10) (v:=.slice (some ⟨gw,0,none⟩) nw c1) (λhcl=>?_)
   refine tq (i:=11) (v:=.int .i64 (i:Int)) (λhcl=>?_)
   refine tq (i:=12) (v:=.pointer (some ⟨gw,i*4,none⟩)) (λhcl=>?_)
   refine tq (i:=13) (v:=.pointer (some ⟨gw,i*4+2,none⟩)) (λhcl=>?_)
   refine tq (i:=14) (v:=.slice (some ⟨gn,0,none⟩) (mn+1) cn) (λhcl=>?_)
   refine tq (i:=15) (v:=.int .i64 ((mn+1):Int)) (λhcl=>?_)
   refine tq (i:=16) (v:=.int .i64 (mn:Int)) (λhcl=>?_)
   refine tq (i:=17) (v:=.slice (some ⟨gn,0,none⟩) mn cn) (λhcl=>?_)
   refine tq (i:=18) (v:=.pointer (some ⟨gw,i*4,none⟩)) (λhcl=>?_)
   refine tq (i:=19) (v:=.pointer (some ⟨gw,i*4+2,none⟩)) (λhcl=>?_)
   refine Qk (i:=20) (by kernel_rfl) (wpOpIn_step rfl (λK hK=>?_))
   go_simp
   refine hK _ _ ⟨Or.inl (by decide),?_⟩
   clear hK K
   refine Qi (by kernel_rfl) ?_ _
   clear hw hcl HSS k2 fz5
   go_wp2
   go_meet
   exact HR
  by_cases hk6:k=6
  ·subst hk6
   obtain⟨b1,-,k3,-⟩:=HSN.out _ _ H2.out
   obtain⟨hC6,⟨cs6,hb6⟩,z6⟩:=HVW.out _ _ H2.out 0 (by omega)
   have HR:Hid (SPx D b C w (w2.setCell ⟨gv,0,none⟩ (.int .i64 1048577)) (spW 6 (N,S))):=by
    unfold Hid
    rw[Ky HNE.out (by decide) HIV.out]
    rw[HNS.out]
    exact(H2.out.write hb6 (by decide) hC6 (Chg.set _ _ _ rfl) (H2.out.net.setWW HIN.out HVV.out HMV.out.1 _) rfl).x
   have fz6:=hb6.blk.frozen 0
   clear HSN HVW HNN H2 hb6 hC6
   go_wp2
   go_meet
   exact HR
  by_cases hk7:k=7
  ·subst hk7
   go_upto_region 19 with fail
   have HD:=Q0 (H2.out.next (show Nx w2 w2.drew from(Below.refl _ _).drew))
   have HSS:Hid ((λq=>q.cell? ⟨w.heap.size,1,none⟩=some (.slice (some ⟨gw,0,none⟩) nw c1)/\q.cell? ⟨gw,i*4+3,none⟩=some (.slice (some ⟨gv,0,none⟩) (mv+1) cv)) w2.drew):=by
    obtain⟨k1,-,k3,-⟩:=HSN.out _ _ HD.out
    exact⟨k1,k3⟩
   obtain⟨hC7,⟨cs7,hb7⟩,z7⟩:=HVW.out _ _ HD.out mv (by omega)
   have HR:Hid (SPx D b C w (w2.drew.setCell ⟨gv,mv,none⟩ (.int .i64 (-1))) (spW 7 (N,S))):=by
    unfold Hid
    rw[Ky HNE.out (by decide) HIV.out]
    rw[HNS.out]
    have e:(wat N.ways i).weights.length-1=mv:=by rw[HMV.out.1];omega
    simp only[Iu,e]
    exact(HD.out.write hb7 (by decide) hC7 (Chg.set _ _ _ rfl) (HD.out.net.setWW HIN.out HVV.out HMV.out.1 _) rfl).x
   have fz7:=hb7.blk.frozen mv
   have hwm:IntKind.i64.wrap (mv:Int)=(mv:Int):=by rw[IntKind.wrap_i64];omega
   clear HSN HVW HNN H2 hb7 hC7 HD
   refine(wpIn_wide (n:=9)).1 ?_
   refine Q9 (c:=15) (S:=λq=>q.cell? ⟨w.heap.size,1,none⟩=some (.slice (some ⟨gw,0,none⟩) nw c1)/\q.cell? ⟨gw,i*4+3,none⟩=some (.slice (some ⟨gv,0,none⟩) (mv+1) cv)) hmx (by kernel_rfl) (λhw hcl=>?_)
   generalize w2.drew=wd at *
   refine tq (i:=0) (v:=.pointer (some ⟨w.heap.size,1,none⟩)) (λhcl=>?_)
   refine tq (i:=1) (v:=.slice (some ⟨gw,0,none⟩) nw c1) (λhcl=>?_)
   refine tq (i:=2) (v:=.int .i64 (i:Int)) (λhcl=>?_)
   refine tq (i:=3) (v:=.pointer (some ⟨gw,i*4,none⟩)) (λhcl=>?_)
   refine tq (i:=4) (v:=.pointer (some ⟨gw,i*4+3,none⟩)) (λhcl=>?_)
   refine tq (i:=5) (v:=.slice (some ⟨gv,0,none⟩) (mv+1) cv) (λhcl=>?_)
   refine tq (i:=6) (v:=.pointer (some ⟨w.heap.size,1,none⟩)) (λhcl=>?_)
   refine tq (i:=7) (v:=.slice (some ⟨gw,0,none⟩) nw c1) (λhcl=>?_)
   refine tq (i:=8) (v:=.int .i64 (i:Int)) (λhcl=>?_)
   refine tq (i:=9) (v:=.pointer (some ⟨gw,i*4,none⟩)) (λhcl=>?_)
   refine tq (i:=10) (v:=.pointer (some ⟨gw,i*4+3,none⟩)) (λhcl=>?_)
   refine tq (i:=11) (v:=.slice (some ⟨gv,0,none⟩) (mv+1) cv) (λhcl=>?_)
   refine tq (i:=12) (v:=.int .i64 ((mv+1):Int)) (λhcl=>?_)
   refine tq (i:=13) (v:=.int .i64 (mv:Int)) (λhcl=>?_)
   refine tk (i:=14) (v:=.pointer (some ⟨gv,mv,none⟩)) hw hcl ⟨Or.inl ⟨by kernel_rfl,?y14⟩,λ_=>rfl⟩ HSS.out (λhcl=>?_)
   case y14=>
    rintro q ⟨c1,c2⟩
    go_simp
    intro hx;omega
   refine Qk (i:=15) (by kernel_rfl) (wpOpIn_step rfl (λK hK=>?_))
   go_simp
   refine hK _ _ ⟨Or.inl (by decide),?_⟩
   clear hK K
   refine Qi (by kernel_rfl) ?_ _
   clear hw hcl HSS z7 fz7
   go_wp2
   go_meet
   exact HR
  by_cases hk8:k=8
  ·subst hk8
   go_upto_region 21 with fail
   have HD:=Q0 (H2.out.next (show Nx w2 w2.drew from(Below.refl _ _).drew))
   have HSS:Hid ((λq=>q.cell? ⟨w.heap.size,1,none⟩=some (.slice (some ⟨gw,0,none⟩) nw c1)/\q.cell? ⟨gw,i*4+2,none⟩=some (.slice (some ⟨gn,0,none⟩) (mn+1) cn)) w2.drew):=by
    obtain⟨k1,k2,-⟩:=HSN.out _ _ HD.out
    exact⟨k1,k2⟩
   have hjv:=Qt HO2.out ((mn+1:Nat):Int)
   obtain⟨j,hj⟩:∃j:Nat,nv S2 ((mn+1:Nat):Int)=(j:Int):=⟨(nv S2 ((mn+1:Nat):Int)).toNat,by omega⟩
   have HJ:Hid (nv S2 ((mn+1:Nat):Int)=(j:Int)):=hj
   have hjn:j<mn+1:=by have:=hjv.2 (by omega);omega
   clear hj hjv
   refine(wpIn_wide (n:=9)).1 ?_
   refine Q9 (c:=16) (S:=λq=>q.cell? ⟨w.heap.size,1,none⟩=some (.slice (some ⟨gw,0,none⟩) nw c1)/\q.cell? ⟨gw,i*4+2,none⟩=some (.slice (some ⟨gn,0,none⟩) (mn+1) cn)) hmx (by kernel_rfl) (λhw hcl=>?_)
   generalize w2.drew=wd at *
   refine tq (i:=0) (v:=.pointer (some ⟨w.heap.size,1,none⟩)) (λhcl=>?_)
   refine tq (i:=1) (v:=.slice (some ⟨gw,0,none⟩) nw c1) (λhcl=>?_)
   refine tq (i:=2) (v:=.int .i64 (i:Int)) (λhcl=>?_)
   refine tq (i:=3) (v:=.pointer (some ⟨gw,i*4,none⟩)) (λhcl=>?_)
   refine tq (i:=4) (v:=.pointer (some ⟨gw,i*4+2,none⟩)) (λhcl=>?_)
   refine tq (i:=5) (v:=.slice (some ⟨gn,0,none⟩) (mn+1) cn) (λhcl=>?_)
   refine tq (i:=6) (v:=.pointer (some ⟨b,0,none⟩)) (λhcl=>?_)
   refine tq (i:=7) (v:=.pointer (some ⟨w.heap.size,1,none⟩)) (λhcl=>?_)
   refine tq (i:=8) (v:=.slice (some ⟨gw,0,none⟩) nw c1) (λhcl=>?_)
   refine tq (i:=9) (v:=.int .i64 (i:Int)) (λhcl=>?_)
   refine tq (i:=10) (v:=.pointer (some ⟨gw,i*4,none⟩)) (λhcl=>?_)
   refine tq (i:=11) (v:=.pointer (some ⟨gw,i*4+2,none⟩)) (λhcl=>?_)
   refine tq (i:=12) (v:=.slice (some ⟨gn,0,none⟩) (mn+1) cn) (λhcl=>?_)
   refine tq (i:=13) (v:=.int .i64 ((mn+1):Int)) (λhcl=>?_)
   refine Q5 (i:=14) (by kernel_rfl) hcl (λhcl=>wpOpIn_step rfl (λK hK=>?_))
   go_simp
   refine⟨trivial,(callsIn_wide.2 (Qe D b S2 ((mn+1:Nat):Int) _ HD.out.src HO2.out (by omega))).mono ?_⟩
   rintro e7 w7 ⟨rfl,hs7,hc7⟩
   have H7:=Q0 (HD.out.drawn hs7 hc7)
   clear hs7 hc7
   have HSS:Hid ((λq=>q.cell? ⟨w.heap.size,1,none⟩=some (.slice (some ⟨gw,0,none⟩) nw c1)/\q.cell? ⟨gw,i*4+2,none⟩=some (.slice (some ⟨gn,0,none⟩) (mn+1) cn)) w7):=by
    obtain⟨k1,k2,-⟩:=HSN.out _ _ H7.out
    exact⟨k1,k2⟩
   rw[HJ.out]
   refine hK _ _ ⟨Or.inr HSS.out,?_⟩
   clear hK K
   refine tk (i:=15) (v:=.pointer (some ⟨gn,j,none⟩)) hw hcl ⟨Or.inl ⟨by kernel_rfl,?y15⟩,λ_=>rfl⟩ HSS.out (λhcl=>?_)
   case y15=>
    rintro q ⟨c1,c2⟩
    go_simp
    intro hx;omega
   obtain⟨hC8,⟨cs8,hb8⟩,z8⟩:=HNN.out _ _ H7.out j hjn
   have HR:Hid (SPx D b C w (w7.setCell ⟨gn,j,none⟩ (.int .i64 777777)) (spW 8 (N,S))):=by
    unfold Hid
    rw[Ky HNE.out (by decide) HIV.out]
    rw[HNS.out]
    have e:(wat N.ways i).nodes.length=mn+1:=HMN.out.1
    have e2:(nv S2 ((mn+1:Nat):Int)).toNat=j:=by rw[HJ.out];simp
    have k:=(H7.out.write (w':=w7.setCell ⟨gn,j,none⟩ (.int .i64 777777)) hb8 (by decide) hC8 (Chg.set _ _ _ rfl) (H7.out.net.setWN (j:=j) HIN.out HVN.out HMN.out.1 777777) rfl).x
    have e3:Iu 8 N (wat N.ways i) S2=(⟨(wat N.ways i).id,(wat N.ways i).both,(wat N.ways i).nodes.set (nv S2 (wat N.ways i).nodes.length).toNat 777777,(wat N.ways i).weights⟩,ns S2 (wat N.ways i).nodes.length):=rfl
    rw[e3]
    simp only[e,e2]
    exact k
   have fz8:=hb8.blk.frozen j
   clear HSN HVW HNN H2 hb8 hC8 HD H7
   refine Qk (i:=16) (by kernel_rfl) (wpOpIn_step rfl (λK hK=>?_))
   go_simp
   refine hK _ _ ⟨Or.inl (by decide),?_⟩
   clear hK K
   refine Qi (by kernel_rfl) ?_ _
   clear hw hcl HSS z8 fz8
   go_wp2
   go_meet
   exact HR
  by_cases hk9:k=9
  ·subst hk9
   go_upto_region 23 with fail
   have HD:=Q0 (H2.out.next (show Nx w2 w2.drew from(Below.refl _ _).drew))
   obtain⟨-,-,z9,-⟩:=HD.out.net.way (i:=0) (by have:=HIN.out;omega)
   rw[Nat.zero_mul] at z9
   have HZ9:=Q0 z9
   obtain⟨hC9,⟨cs9,hb9⟩,y9,-⟩:=HD.out.net.way HIN.out
   have HR:Hid (SPx D b C w (w2.drew.setCell ⟨gw,i*4,none⟩ (.int .i64 (wat N.ways 0).id)) (spW 9 (N,S))):=by
    unfold Hid
    rw[Ky HNE.out (by decide) HIV.out]
    rw[HNS.out]
    exact(HD.out.write hb9 (by decide) hC9 (Chg.set _ _ _ rfl) (HD.out.net.setWId HNW.out HIN.out _) rfl).x
   have fz9:=hb9.blk.frozen (i*4)
   have HB1:=Q0 (HSN.out _ _ HD.out).1
   clear HSN HVW HNN H2 hb9 hC9 HD z9
   generalize (wat N.ways 0).id=id0 at *
   have HSS:Hid ((λq=>q.cell? ⟨w.heap.size,1,none⟩=some (.slice (some ⟨gw,0,none⟩) nw c1)/\q.cell? ⟨gw,0,none⟩=some (.int .i64 id0)) w2.drew):=⟨HB1.out,HZ9.out⟩
   clear HB1 HZ9
   refine(wpIn_wide (n:=9)).1 ?_
   refine Q9 (c:=10) (S:=λq=>q.cell? ⟨w.heap.size,1,none⟩=some (.slice (some ⟨gw,0,none⟩) nw c1)/\q.cell? ⟨gw,0,none⟩=some (.int .i64 id0)) hmx (by kernel_rfl) (λhw hcl=>?_)
   generalize w2.drew=wd at *
   refine tq (i:=0) (v:=.pointer (some ⟨w.heap.size,1,none⟩)) (λhcl=>?_)
   refine tq (i:=1) (v:=.slice (some ⟨gw,0,none⟩) nw c1) (λhcl=>?_)
   refine tq (i:=2) (v:=.int .i64 (i:Int)) (λhcl=>?_)
   refine tq (i:=3) (v:=.pointer (some ⟨w.heap.size,1,none⟩)) (λhcl=>?_)
   refine tq (i:=4) (v:=.slice (some ⟨gw,0,none⟩) nw c1) (λhcl=>?_)
   refine tq (i:=5) (v:=.pointer (some ⟨gw,0,none⟩)) (λhcl=>?_)
   refine tq (i:=6) (v:=.pointer (some ⟨gw,0,none⟩)) (λhcl=>?_)
   refine tq (i:=7) (v:=.int .i64 id0) (λhcl=>?_)
   refine tq (i:=8) (v:=.pointer (some ⟨gw,i*4,none⟩)) (λhcl=>?_)
   refine tq (i:=9) (v:=.pointer (some ⟨gw,i*4,none⟩)) (λhcl=>?_)
   refine Qk (i:=10) (by kernel_rfl) (wpOpIn_step rfl (λK hK=>?_))
   go_simp
   refine hK _ _ ⟨Or.inl (by decide),?_⟩
   clear hK K
   refine Qi (by kernel_rfl) ?_ _
   clear hw hcl HSS y9 fz9
   go_wp2
   go_meet
   exact HR
  by_cases hk10:k=10
  ·subst hk10
   go_upto_region 25 with fail
   have HD:=Q0 (H2.out.next (show Nx w2 w2.drew from(Below.refl _ _).drew))
   have hn1:=HI5.out.n1
   replace hn1:1<=N.nodes.length:=hn1
   obtain⟨g0,c0,rfl⟩:=HD.out.s0 hn1
   obtain⟨-,-,z0⟩:=HD.out.net.nodes.in (j:=0) hn1
   have HZ0:=Q0 z0
   have HB0:=Q0 (HD.out.box.blk.cell (i:=0) rfl)
   have HB1:=Q0 (HSN.out _ _ HD.out).1
   have HA:=Q0 (HD.out.next (Qd w2.drew (.cells #[.int .i64 (iat N.nodes 0)] 2)))
   have HC2:Hid (C<=w2.drew.heap.size):=by have h1:=HD.out.low;have h2:=HD.out.chg.size;unfold Hid;omega
   obtain⟨hC9,⟨cs9,hb9⟩,-,y9,-⟩:=HA.out.net.way HIN.out
   rw[HVN.out] at y9
   have HF:Hid (SPs D b C w ((w2.drew.alloc (.cells #[.int .i64 (iat N.nodes 0)] 2)).setCell ⟨gw,i*4+2,none⟩ (.slice (some ⟨w2.drew.heap.size,0,none⟩) 1 1)) (.slice (some ⟨g0,0,none⟩) N.nodes.length c0) (.slice (some ⟨gw,0,none⟩) nw c1) v2 v3 (nWy N i ⟨(wat N.ways i).id,(wat N.ways i).both,[iat N.nodes 0],(wat N.ways i).weights⟩) S2 (upd vn i (.slice (some ⟨w2.drew.heap.size,0,none⟩) 1 1)) vw vr):=HA.out.write hb9 (by decide) hC9 (Chg.set _ _ _ rfl) (HA.out.net.putN HNW.out HIN.out (Qe4 HC2.out) (Fr.fresh HD.out.net (λy hy=>by have e:w2.drew.heap.size=y:=Option.some.inj hy;omega))) rfl
   have fz9:=hb9.blk.frozen (i*4+2)
   clear HNN HVW H2 HD HA hb9 z0 hn1 HSN HVN
   generalize hzz:iat N.nodes 0=z at *
   have HZZ:Hid (iat N.nodes 0=z):=hzz
   clear hzz
   have hn1:¬N.nodes.length=0:=by have h1:=HI5.out.n1;have h2:1<=N.nodes.length:=h1;omega
   generalize N.nodes.length=n0 at *
   have HSS:Hid ((λq=>q.cell? ⟨w.heap.size,1,none⟩=some (.slice (some ⟨gw,0,none⟩) nw c1)/\q.cell? ⟨w.heap.size,0,none⟩=some (.slice (some ⟨g0,0,none⟩) n0 c0)/\q.cell? ⟨g0,0,none⟩=some (.int .i64 z)) w2.drew):=⟨HB1.out,HB0.out,HZ0.out⟩
   clear HB0 HB1 HZ0
   refine(wpIn_wide (n:=9)).1 ?_
   refine Q9 (c:=10) (S:=λq=>q.cell? ⟨w.heap.size,1,none⟩=some (.slice (some ⟨gw,0,none⟩) nw c1)/\q.cell? ⟨w.heap.size,0,none⟩=some (.slice (some ⟨g0,0,none⟩) n0 c0)/\q.cell? ⟨g0,0,none⟩=some (.int .i64 z)) hmx (by kernel_rfl) (λhw hcl=>?_)
   generalize w2.drew=wd at *
   refine tq (i:=0) (v:=.pointer (some ⟨w.heap.size,1,none⟩)) (λhcl=>?_)
   refine tq (i:=1) (v:=.slice (some ⟨gw,0,none⟩) nw c1) (λhcl=>?_)
   refine tq (i:=2) (v:=.int .i64 (i:Int)) (λhcl=>?_)
   refine tq (i:=3) (v:=.pointer (some ⟨w.heap.size,0,none⟩)) (λhcl=>?_)
   refine tq (i:=4) (v:=.slice (some ⟨g0,0,none⟩) n0 c0) (λhcl=>?_)
   refine tq (i:=5) (v:=.pointer (some ⟨g0,0,none⟩)) (λhcl=>?_)
   refine tq (i:=6) (v:=.int .i64 z) (λhcl=>?_)
   refine Q5 (i:=7) (by kernel_rfl) hcl (λhcl=>wpOpIn_step rfl (λK hK=>?_))
   go_simp
   have HSS:Hid ((λq=>q.cell? ⟨w.heap.size,1,none⟩=some (.slice (some ⟨gw,0,none⟩) nw c1)/\q.cell? ⟨w.heap.size,0,none⟩=some (.slice (some ⟨g0,0,none⟩) n0 c0)/\q.cell? ⟨g0,0,none⟩=some (.int .i64 z)) (wd.alloc (.cells #[.int .i64 z] 2))):=⟨Qf (Qd _ _) HSS.out.1,Qf (Qd _ _) HSS.out.2.1,Qf (Qd _ _) HSS.out.2.2⟩
   refine hK _ _ ⟨Or.inr HSS.out,?_⟩
   clear hK K
   refine tq (i:=8) (v:=.pointer (some ⟨gw,i*4,none⟩)) (λhcl=>?_)
   refine tq (i:=9) (v:=.pointer (some ⟨gw,i*4+2,none⟩)) (λhcl=>?_)
   refine Qk (i:=10) (by kernel_rfl) (wpOpIn_step rfl (λK hK=>?_))
   go_simp
   refine hK _ _ ⟨Or.inl (by decide),?_⟩
   clear hK K
   refine Qi (by kernel_rfl) ?_ _
   clear hw hcl HSS y9 fz9
   generalize (wd.alloc (.cells #[.int .i64 z] 2)).setCell ⟨gw,i*4+2,none⟩ (.slice (some ⟨wd.heap.size,0,none⟩) 1 1)=w9 at *
   generalize upd vn i (.slice (some ⟨wd.heap.size,0,none⟩) 1 1)=vm at *
   have HA:=Q0 (HF.out.next (Qd w9 (.cells #[] 2)))
   have HC9:Hid (C<=w9.heap.size):=by have h1:=HF.out.low;have h2:=HF.out.chg.size;unfold Hid;omega
   have HIM:Hid (i<(nWy N i ⟨(wat N.ways i).id,(wat N.ways i).both,[z],(wat N.ways i).weights⟩).ways.length):=by unfold Hid nWy;simp only[List.length_set];exact HIN.out
   have HIL:Hid ((nWy N i ⟨(wat N.ways i).id,(wat N.ways i).both,[z],(wat N.ways i).weights⟩).ways.length=nw):=by unfold Hid nWy;simp only[List.length_set];exact HNW.out
   obtain⟨hC9,⟨cs9,hb9⟩,-,-,y9⟩:=HA.out.net.way HIM.out
   rw[HVV.out] at y9
   have b1:(w9.alloc (.cells #[] 2)).cell? ⟨w.heap.size,1,none⟩=some (.slice (some ⟨gw,0,none⟩) nw c1):=HA.out.box.blk.cell (i:=1) rfl
   have b1':w9.cell? ⟨w.heap.size,1,none⟩=some (.slice (some ⟨gw,0,none⟩) nw c1):=HF.out.box.blk.cell (i:=1) rfl
   have hin9:=hin
   have HR:Hid (SPx D b C w ((w9.alloc (.cells #[] 2)).setCell ⟨gw,i*4+3,none⟩ (.slice (some ⟨w9.heap.size,0,none⟩) 0 0)) (spW 10 (N,S))):=by
    unfold Hid
    rw[Ky HNE.out (by decide) HIV.out]
    rw[HNS.out]
    have k:=(HA.out.write hb9 (by decide) hC9 (Chg.set _ _ _ rfl) (HA.out.net.putW HIL.out HIM.out (own0 HC9.out) (Fr.fresh HF.out.net (λy hy=>by have e:w9.heap.size=y:=Option.some.inj hy;omega))) rfl).x
    have e:Iu 10 N (wat N.ways i) S2=(⟨(wat N.ways i).id,(wat N.ways i).both,[z],[]⟩,S2):=by rw[<-HZZ.out];rfl
    rw[e]
    have e2:=Qbs (x:=⟨(wat N.ways i).id,(wat N.ways i).both,[z],(wat N.ways i).weights⟩) (y:=⟨(wat N.ways i).id,(wat N.ways i).both,[z],[]⟩) HIN.out
    rw[<-e2]
    have e3:=Qea (x:=⟨(wat N.ways i).id,(wat N.ways i).both,[z],(wat N.ways i).weights⟩) HIN.out
    rw[e3] at k
    exact k
   have fz9:=hb9.blk.frozen (i*4+3)
   clear hb9 hC9 HA HF
   go_wp2
   go_meet
   exact HR
  by_cases hk11:k=11
  ·subst hk11
   go_upto_region 28 with fail
   have HD:=Q0 (H2.out.next (show Nx w2 w2.drew from(Below.refl _ _).drew))
   have HSS:Hid ((λq=>q.cell? ⟨w.heap.size,1,none⟩=some (.slice (some ⟨gw,0,none⟩) nw c1)) w2.drew):=(HSN.out _ _ HD.out).1
   obtain⟨p,hp⟩:∃p,nw=p+1:=⟨nw-1,by omega⟩
   have HP:Hid (nw=p+1):=hp
   have hpn:p<nw:=by omega
   have HV:=Q0 (Qt HO2.out 2)
   have hv1:=HV.out.1
   have hv2:=HV.out.2 (by omega)
   have hw1:IntKind.i64.wrap (1048576+nv S2 2)=1048576+nv S2 2:=by rw[IntKind.wrap_i64];omega
   have hw2:IntKind.i64.wrap ((nw:Int)-1)=(p:Int):=by rw[IntKind.wrap_i64];omega
   clear hp
   refine(wpIn_wide (n:=9)).1 ?_
   refine Q9 (c:=11) (S:=λq=>q.cell? ⟨w.heap.size,1,none⟩=some (.slice (some ⟨gw,0,none⟩) nw c1)) hmx (by kernel_rfl) (λhw hcl=>?_)
   generalize w2.drew=wd at *
   refine tq (i:=0) (v:=.pointer (some ⟨w.heap.size,1,none⟩)) (λhcl=>?_)
   refine tq (i:=1) (v:=.slice (some ⟨gw,0,none⟩) nw c1) (λhcl=>?_)
   refine tq (i:=2) (v:=.pointer (some ⟨w.heap.size,1,none⟩)) (λhcl=>?_)
   refine tq (i:=3) (v:=.slice (some ⟨gw,0,none⟩) nw c1) (λhcl=>?_)
   refine tq (i:=4) (v:=.int .i64 (nw:Int)) (λhcl=>?_)
   refine tq (i:=5) (v:=.int .i64 (p:Int)) (λhcl=>?_)
   refine tq (i:=6) (v:=.pointer (some ⟨b,0,none⟩)) (λhcl=>?_)
   refine Q5 (i:=7) (by kernel_rfl) hcl (λhcl=>wpOpIn_step rfl (λK hK=>?_))
   go_simp
   refine⟨trivial,(callsIn_wide.2 (Qe D b S2 2 _ HD.out.src HO2.out (by omega))).mono ?_⟩
   rintro e7 w7 ⟨rfl,hs7,hc7⟩
   have H7:=Q0 (HD.out.drawn hs7 hc7)
   clear hs7 hc7
   have HSS:Hid ((λq=>q.cell? ⟨w.heap.size,1,none⟩=some (.slice (some ⟨gw,0,none⟩) nw c1)) w7):=(HSN.out _ _ H7.out).1
   refine hK _ _ ⟨Or.inr HSS.out,?_⟩
   clear hK K
   refine tq (i:=8) (v:=.int .i64 (1048576+nv S2 2)) (λhcl=>?_)
   refine tq (i:=9) (v:=.pointer (some ⟨gw,p*4,none⟩)) (λhcl=>?_)
   refine tq (i:=10) (v:=.pointer (some ⟨gw,p*4,none⟩)) (λhcl=>?_)
   have HPN:Hid (p<N.ways.length):=by unfold Hid;rw[HNW.out];exact hpn
   obtain⟨hC8,⟨cs8,hb8⟩,z8,-⟩:=H7.out.net.way HPN.out
   have HR:Hid (SPx D b C w (w7.setCell ⟨gw,p*4,none⟩ (.int .i64 (1048576+nv S2 2))) (spW 11 (N,S))):=by
    unfold Hid spW
    dsimp only
    have e:nw-1=p:=by have:=HP.out;omega
    rw[if_neg HNE.out,if_pos rfl,HNS.out,HNW.out,e]
    exact(H7.out.write hb8 (by decide) hC8 (Chg.set _ _ _ rfl) (H7.out.net.setWId HNW.out HPN.out _) rfl).x
   have fz8:=hb8.blk.frozen (p*4)
   clear HSN HVW HNN H2 hb8 hC8 HD H7
   refine Qk (i:=11) (by kernel_rfl) (wpOpIn_step rfl (λK hK=>?_))
   go_simp
   refine hK _ _ ⟨Or.inl (by decide),?_⟩
   clear hK K
   refine Qi (by kernel_rfl) ?_ _
   clear hw hcl HSS z8 fz8 hv1 hv2 hw1 hw2
   go_wp2
   go_meet
   exact HR
  have HR:Hid (SPx D b C w (w2) (spW k (N,S))):=by
   unfold Hid spW
   dsimp only
   rw[if_neg HNE.out,if_neg (by omega),if_neg (by omega),HNS.out]
   exact H2.out.x
  have hq5:(k==5)=false:=by simp;omega
  have hq6:(k==6)=false:=by simp;omega
  have hq7:(k==7)=false:=by simp;omega
  have hq8:(k==8)=false:=by simp;omega
  have hq9:(k==9)=false:=by simp;omega
  have hq10:(k==10)=false:=by simp;omega
  have hq11:(k==11)=false:=by simp;omega
  clear HSN HVW HNN H2
  go_wp2
  go_meet
  exact HR
 case rest=>
 have HI6:Hid (Qck (spW k X5)):=Qdn HI5.out
 clear HX5 HI5 B1 HNW
 generalize hX6:spW k X5=X6 at *
 clear hX6 X5
 have HX6:=Q0 hcut.out
 clear hcut
 obtain⟨a0,c0,a1,c1,a2,c2,a3,c3,B0,B1,B2,B3⟩:=HX6.out.box
 clear B0 B1 B3
 generalize hlen:X6.1.rels.length=nr at B2
 have HNR:Hid (X6.1.rels.length=nr):=hlen
 clear hlen
 go_upto_if 179 with fail
 go_cut [] from 176 to 229 (λwq=>Hid (SPx D b C w (wq) (spR k X6)))
 case first=>
  by_cases h0:nr=0
  ·have HR:Hid (SPx D b C w (wc) (spR k X6)):=by unfold Hid spR;rw[if_pos (by rw[HNR.out];exact h0)];exact HX6.out
   subst h0
   clear HX6 HI6 HNR
   go_wp2
   go_meet
   exact HR
  have h0':0<nr:=by omega
  obtain⟨v0,v1,v2,v3,vn,vw,vr,hX⟩:=HX6.out
  obtain⟨N,S⟩:=X6
  replace hX:SPs D b C w wc v0 v1 v2 v3 N S vn vw vr:=hX
  replace HNR:Hid (N.rels.length=nr):=HNR
  replace HI6:Hid (Qck (N,S)):=HI6
  have HNE:Hid (¬N.rels.length=0):=by unfold Hid;rw[HNR.out];exact h0
  have hwl:=HI6.out.rl
  replace hwl:N.rels.length<=900000:=hwl
  rw[HNR.out] at hwl
  obtain⟨gr,c2,e1⟩:=hX.s2 (by have:=HNE.out;omega)
  rw[HNR.out] at e1
  subst e1
  have HX:=Q0 hX
  have HOK:Hid (SOk S):=HI6.out.ok
  clear HX6 hX
  go_wp2_with fail
  refine(Qe D b S nr wc HX.out.src HOK.out (by omega)).mono ?_
  rintro e w2 ⟨rfl,hs2,hc2⟩
  have H2:=Q0 (HX.out.drawn hs2 hc2)
  have hiv:=Qt HOK.out nr
  obtain⟨i,hi⟩:∃i:Nat,nv S nr=(i:Int):=⟨(nv S nr).toNat,by omega⟩
  have hin:i<nr:=by have:=hiv.2 (by omega);omega
  have HIN:Hid (i<N.rels.length):=by unfold Hid;rw[HNR.out];exact hin
  have HRES:Hid (∀q,SPx D b C w q (⟨N.nodes,N.ways,N.rels.set i (Qdo k N.rels (rat N.rels i)),N.turns,N.uturn⟩,ns S nr)->SPx D b C w q (spR k (N,S))):=λq h=>by
   unfold spR
   dsimp only
   rw[if_neg HNE.out,HNR.out,hi]
   exact h
  rw[hi]
  have HL:Hid ((rat N.rels i).ways.length<=900000):=HI6.out.rw_ i HIN.out
  obtain⟨-,-,k0,k1,k2,k3,k4,k5,k6⟩:=H2.out.net.rel HIN.out
  obtain⟨ar,cr,er⟩:=Q3 (H2.out.net.rw_ i HIN.out)
  rw[er] at k6
  have b2:=H2.out.box.blk.cell (i:=2) rfl
  clear hs2 hc2 hiv hi HX HOK
  obtain⟨x,hx⟩:∃x,x=rat N.rels i:=⟨_,rfl⟩
  rw[<-hx] at k0 k1 k2 k3 k4 k5 k6 HL
  have HX:Hid (x=rat N.rels i):=hx
  generalize hmr:x.ways.length=mr at k6
  have HER:Hid (vr i=.slice ar mr cr):=by unfold Hid;rw[er,<-hmr,hx]
  clear hx er hmr
  generalize ns S nr=S2 at *
  go_upto_region 32 with fail
  clear k0 k1 k2 k3 k4 k5 k6 b2
  have HBN:Hid (BT (w2.alloc (.cells #[.int .i64 x.id,.bool x.only,.int .i64 x.frm,.int .i64 x.to,.bool x.via,.int .i64 x.node,.slice ar mr cr] 48)) w2.heap.size #[.int .i64 x.id,.bool x.only,.int .i64 x.frm,.int .i64 x.to,.bool x.via,.int .i64 x.node,.slice ar mr cr] 48):=BT.new _ _ _ _ rfl
  have HNX:Hid (Nx w2 (w2.alloc (.cells #[.int .i64 x.id,.bool x.only,.int .i64 x.frm,.int .i64 x.to,.bool x.via,.int .i64 x.node,.slice ar mr cr] 48))):=Qd _ _
  generalize w2.alloc (.cells #[.int .i64 x.id,.bool x.only,.int .i64 x.frm,.int .i64 x.to,.bool x.via,.int .i64 x.node,.slice ar mr cr] 48)=w3 at *
  have HW3:Hid (RSx D b C w w3 w2.heap.size i N S2 x):=by
   have hn:=HNX.out
   have ho:=H2.out.net.rw_ i HIN.out
   rw[HER.out,<-HX.out] at ho
   refine⟨_,_,_,_,_,_,_,_,H2.out.next hn,HBN.out,ho.next hn,?_,λe=>?_,?_⟩
   ·rw[HER.out];exact Fr.same
   ·have h1:=(Ql H2.out.net.rels _ e).2
    omega
   ·have h1:=H2.out.low
    have h2:=H2.out.chg.size
    omega
  have HRS:Hid (rat N.rels i=x):=HX.out.symm
  rw[HRS.out] at HRES
  unfold Qdo at HRES
  clear HNX HBN H2 HER HX HRS
  generalize w2.heap.size=g9 at *
  go_upto_if 191 with fail
  go_cut [] from 190 to 192 (λwq=>Hid (RSx D b C w (wq) g9 i N S2 (Q04 k x)))
  case first=>
   by_cases hk:k=12
   ·subst hk
    obtain⟨v0,v1,v2,v3,vn,vw,vr,va,hX⟩:=HW3.out
    have HR:Hid (RSx D b C w (w3.setCell ⟨g9,2,none⟩ (.int .i64 777777)) g9 i N S2 (Q04 12 x)):=hX.put (y:=⟨x.id,x.only,777777,x.to,x.via,x.node,x.ways⟩) 2 _ hX.row hX.fr rfl
    have x2:w3.cell? ⟨g9,2,none⟩=some (.int .i64 x.frm):=hX.bx.blk.cell (i:=2) rfl
    have fz2:=hX.bx.blk.frozen 2
    clear hX HW3 HRES
    go_wp2
    go_meet
    exact HR
   ·have HR:Hid (RSx D b C w (w3) g9 i N S2 (Q04 k x)):=by unfold Hid Q04;rw[if_neg hk];exact HW3.out
    have hkb:(k==12)=false:=by simp[hk]
    clear HW3 hk HRES
    go_wp2
    go_meet
    exact HR
  case rest=>
  have HL':Hid ((Q04 k x).ways.length<=900000):=by unfold Hid;rw[Qdl];exact HL.out
  clear HW3 HL
  generalize hy:Q04 k x=x12 at *
  clear hy
  have HW3:=Q0 hcut.out
  clear hcut
  have HL:=HL'
  clear HL'
  go_upto_if 194 with fail
  go_cut [] from 193 to 195 (λwq=>Hid (RSx D b C w (wq) g9 i N S2 (Q03 k x12)))
  case first=>
   by_cases hk:k=13
   ·subst hk
    obtain⟨v0,v1,v2,v3,vn,vw,vr,va,hX⟩:=HW3.out
    have HR:Hid (RSx D b C w (wc.setCell ⟨g9,3,none⟩ (.int .i64 777777)) g9 i N S2 (Q03 13 x12)):=hX.put (y:=⟨x12.id,x12.only,x12.frm,777777,x12.via,x12.node,x12.ways⟩) 3 _ hX.row hX.fr rfl
    have x3:wc.cell? ⟨g9,3,none⟩=some (.int .i64 x12.to):=hX.bx.blk.cell (i:=3) rfl
    have fz3:=hX.bx.blk.frozen 3
    clear hX HW3 HRES
    go_wp2
    go_meet
    exact HR
   ·have HR:Hid (RSx D b C w (wc) g9 i N S2 (Q03 k x12)):=by unfold Hid Q03;rw[if_neg hk];exact HW3.out
    have hkb:(k==13)=false:=by simp[hk]
    clear HW3 hk HRES
    go_wp2
    go_meet
    exact HR
  case rest=>
  have HL':Hid ((Q03 k x12).ways.length<=900000):=by unfold Hid;rw[Qdk];exact HL.out
  clear HW3 HL
  generalize hy:Q03 k x12=x13 at *
  clear hy x12
  have HW3:=Q0 hcut.out
  clear hcut
  have HL:=HL'
  clear HL'
  go_upto_if 197 with fail
  go_cut [] from 196 to 201 (λwq=>Hid (RSx D b C w (wq) g9 i N S2 (Q02 k x13)))
  case first=>
   by_cases hk:k=14
   ·subst hk
    obtain⟨v0,v1,v2,v3,vn,vw,vr,va,hX⟩:=HW3.out
    have HR:Hid (RSx D b C w (wc.setCell ⟨g9,4,none⟩ (.bool (!x13.via))) g9 i N S2 (Q02 14 x13)):=hX.put (y:=⟨x13.id,x13.only,x13.frm,x13.to,!x13.via,x13.node,x13.ways⟩) 4 _ hX.row hX.fr rfl
    have x4:wc.cell? ⟨g9,4,none⟩=some (.bool x13.via):=hX.bx.blk.cell (i:=4) rfl
    have fz4:=hX.bx.blk.frozen 4
    clear hX HW3 HRES
    go_wp2
    go_meet
    exact HR
   ·have HR:Hid (RSx D b C w (wc) g9 i N S2 (Q02 k x13)):=by unfold Hid Q02;rw[if_neg hk];exact HW3.out
    have hkb:(k==14)=false:=by simp[hk]
    clear HW3 hk HRES
    go_wp2
    go_meet
    exact HR
  case rest=>
  have HL':Hid ((Q02 k x13).ways.length<=900000):=by unfold Hid;rw[Qdj];exact HL.out
  clear HW3 HL
  generalize hy:Q02 k x13=x14 at *
  clear hy x13
  have HW3:=Q0 hcut.out
  clear hcut
  have HL:=HL'
  clear HL'
  go_upto_if 203 with fail
  go_cut [] from 202 to 207 (λwq=>Hid (RSx D b C w (wq) g9 i N S2 (Q01 k x14)))
  case first=>
   by_cases hk:k=15
   ·subst hk
    obtain⟨v0,v1,v2,v3,vn,vw,vr,va,hX⟩:=HW3.out
    have HR:Hid (RSx D b C w (wc.setCell ⟨g9,5,none⟩ (.int .i64 (wrap64 (x14.node+1)))) g9 i N S2 (Q01 15 x14)):=hX.put (y:=⟨x14.id,x14.only,x14.frm,x14.to,x14.via,wrap64 (x14.node+1),x14.ways⟩) 5 _ hX.row hX.fr rfl
    have x5:wc.cell? ⟨g9,5,none⟩=some (.int .i64 x14.node):=hX.bx.blk.cell (i:=5) rfl
    have fz5:=hX.bx.blk.frozen 5
    clear hX HW3 HRES
    go_wp2
    go_meet
    exact HR
   ·have HR:Hid (RSx D b C w (wc) g9 i N S2 (Q01 k x14)):=by unfold Hid Q01;rw[if_neg hk];exact HW3.out
    have hkb:(k==15)=false:=by simp[hk]
    clear HW3 hk HRES
    go_wp2
    go_meet
    exact HR
  case rest=>
  have HL':Hid ((Q01 k x14).ways.length<=900000):=by unfold Hid;rw[Qdi];exact HL.out
  clear HW3 HL
  generalize hy:Q01 k x14=x15 at *
  clear hy x14
  have HW3:=Q0 hcut.out
  clear hcut
  have HL:=HL'
  clear HL'
  go_upto_if 209 with fail
  go_cut [] from 208 to 216 (λwq=>Hid (RSx D b C w (wq) g9 i N S2 (Q6k k x15)))
  case first=>
   by_cases hk:k=16
   ·subst hk
    obtain⟨v0,v1,v2,v3,vn,vw,vr,va,hX⟩:=HW3.out
    obtain⟨ar,cr,rfl⟩:=Q3 hX.row
    have hA:=hX.next (Qd wc (.cells #[.int .i64 x15.frm] 2))
    have x2:wc.cell? ⟨g9,2,none⟩=some (.int .i64 x15.frm):=hX.bx.blk.cell (i:=2) rfl
    have x6:(wc.alloc (.cells #[.int .i64 x15.frm] 2)).cell? ⟨g9,6,none⟩=some (.slice ar x15.ways.length cr):=hA.bx.blk.cell (i:=6) rfl
    have hlow:C<=wc.heap.size:=by have:=hX.st.low;have:=hX.st.chg.size;omega
    have HO:Hid (Qb C (wc.alloc (.cells #[.int .i64 x15.frm] 2)) (.slice (some ⟨wc.heap.size,0,none⟩) 1 1) [x15.frm]):=Qe4 hlow
    have hz:C<=(wc.alloc (.cells #[.int .i64 x15.frm] 2)).heap.size:=by have:=hA.st.low;have:=hA.st.chg.size;omega
    have hll:=HL.out
    have HX:=Q0 hX
    have HA:=Q0 hA
    clear hA hX HW3 HRES hlow
    have HFIN:Hid (∀w8 v8,Nx wc w8->Qb C w8 v8 (x15.frm::x15.ways)->(∀y,v8.ownBlock=some y->wc.heap.size<=y)->RSx D b C w (w8.setCell ⟨g9,6,none⟩ v8) g9 i N S2 (Q6k 16 x15)):=λw8 v8 hn ho hy=>(HX.out.next hn).put (y:=⟨x15.id,x15.only,x15.frm,x15.to,x15.via,x15.node,x15.frm::x15.ways⟩) 6 _ ho (Fr.fresh HX.out.st.net hy) rfl
    cases ar with
    |none=>
     have hl0:x15.ways.length=0:=by
      rcases HX.out.row.2 with⟨-,e⟩|⟨g,cap,cur,e,-⟩
      ·exact e
      ·cases e
     have hw0:x15.ways=[]:=List.length_eq_zero_iff.1 hl0
     have hc0:cr=0:=by
      rcases HX.out.row.2 with⟨e,-⟩|⟨g,cap,cur,e,-⟩
      ·injection e
      ·cases e
     subst hc0
     rw[hl0] at x6
     have R:=HFIN.out (wc.alloc (.cells #[.int .i64 x15.frm] 2)) (.slice (some ⟨wc.heap.size,0,none⟩) 1 1) (Qd _ _) (by rw[hw0];exact HO.out) (λy hy=>by have e:wc.heap.size=y:=Option.some.inj hy;omega)
     have HR:=Q0 R
     have fz6:=HA.out.bx.blk.frozen 6
     clear R hl0 hw0 HFIN HX HA
     go_wp2_with (at_builtin;refine wpList_append_own_none rfl _ _ _ rfl C 2 _ 1 Tryz.underlying23 (info_parts Zt).choose_spec.1 (.slice (some ⟨wc.heap.size,0,none⟩) 1 1) 1 _ rfl HO.out rfl ?_)
     go_wp2
     go_meet
     exact HR
    |some ad=>
     have hadr:∃gb,ad=⟨gb,0,none⟩:=by
      rcases HX.out.row.2 with⟨e,-⟩|⟨g,cap,cur,e,-⟩
      ·cases e
      ·simp only[Value.slice.injEq,Option.some.injEq] at e
       exact⟨g,e.1⟩
     obtain⟨gb,rfl⟩:=hadr
     go_wp2_with (at_builtin;refine Q2x rfl _ _ rfl C 1 x15.ways.length C gb 0 cr (.slice (some ⟨wc.heap.size,0,none⟩) 1 1) [x15.frm] x15.ways _ rfl HO.out rfl HA.out.row.held rfl rfl (by omega) hz ?_)
     intro a8 c8 w8 r1 r2 r3
     have HR:=Q0 (HFIN.out w8 (.slice a8 (1+x15.ways.length) c8) (Q3s r2) r1 (Qao r3))
     have h8:=HX.out.next (Q3s r2)
     have y6:w8.cell? ⟨g9,6,none⟩=some (.slice (some ⟨gb,0,none⟩) x15.ways.length cr):=h8.bx.blk.cell (i:=6) rfl
     have fz6:=h8.bx.blk.frozen 6
     clear h8 r1 r2 r3 HX HA HO HFIN x2 x6 hz
     go_wp2
     go_meet
     exact HR
   ·have HR:Hid (RSx D b C w (wc) g9 i N S2 (Q6k k x15)):=by unfold Hid Q6k;rw[if_neg hk];exact HW3.out
    have hkb:(k==16)=false:=by simp[hk]
    clear HW3 hk HRES
    go_wp2
    go_meet
    exact HR
  case rest=>
  clear HW3 HL
  generalize hy:Q6k k x15=x16 at *
  clear hy x15
  have HW3:=Q0 hcut.out
  clear hcut
  go_upto_if 218 with fail
  go_cut [] from 217 to 224 (λwq=>Hid (RSx D b C w (wq) g9 i N S2 (Q6j k N.rels x16)))
  case first=>
   by_cases hk:k=17
   ·subst hk
    obtain⟨v0,v1,v2,v3,vn,vw,vr,va,hX⟩:=HW3.out
    obtain⟨gr,c2,e2⟩:=hX.st.s2 (by have:=HIN.out;omega)
    subst e2
    have b2:=hX.st.box.blk.cell (i:=2) rfl
    obtain⟨-,-,y0,-⟩:=hX.st.net.rel (i:=0) (by have:=HIN.out;omega)
    rw[Nat.zero_mul] at y0
    have hlen:=HIN.out
    have HR:Hid (RSx D b C w (wc.setCell ⟨g9,0,none⟩ (.int .i64 (rat N.rels 0).id)) g9 i N S2 (Q6j 17 N.rels x16)):=hX.put (y:=⟨(rat N.rels 0).id,x16.only,x16.frm,x16.to,x16.via,x16.node,x16.ways⟩) 0 _ hX.row hX.fr rfl
    have x0:wc.cell? ⟨g9,0,none⟩=some (.int .i64 x16.id):=hX.bx.blk.cell (i:=0) rfl
    have fz0:=hX.bx.blk.frozen 0
    have hp0:0<N.rels.length:=by omega
    clear hX HW3 HRES
    go_wp2
    go_meet
    exact HR
   ·have HR:Hid (RSx D b C w (wc) g9 i N S2 (Q6j k N.rels x16)):=by unfold Hid Q6j;rw[if_neg hk];exact HW3.out
    have hkb:(k==17)=false:=by simp[hk]
    clear HW3 hk HRES
    go_wp2
    go_meet
    exact HR
  case rest=>
  clear HW3
  generalize hy:Q6j k N.rels x16=x17 at *
  clear hy x16
  have HW3:=Q0 hcut.out
  clear hcut
  obtain⟨v0,v1,v2,v3,vn,vw,vr,va,hX⟩:=HW3.out
  obtain⟨av,cv,rfl⟩:=Q3 hX.row
  obtain⟨gr,c2,e2⟩:=hX.st.s2 (by have:=HIN.out;omega)
  rw[HNR.out] at e2
  subst e2
  obtain⟨hCr,⟨csr,hbr⟩,t0,t1,t2,t3,t4,t5,t6⟩:=hX.st.net.rel HIN.out
  obtain⟨at6,ct6,et6⟩:=Q3 (hX.st.net.rw_ i HIN.out)
  rw[et6] at t6
  have b2:=hX.st.box.blk.cell (i:=2) rfl
  have x0:wc.cell? ⟨g9,0,none⟩=some (.int .i64 x17.id):=hX.bx.blk.cell (i:=0) rfl
  have x1:wc.cell? ⟨g9,1,none⟩=some (.bool x17.only):=hX.bx.blk.cell (i:=1) rfl
  have x2:wc.cell? ⟨g9,2,none⟩=some (.int .i64 x17.frm):=hX.bx.blk.cell (i:=2) rfl
  have x3:wc.cell? ⟨g9,3,none⟩=some (.int .i64 x17.to):=hX.bx.blk.cell (i:=3) rfl
  have x4:wc.cell? ⟨g9,4,none⟩=some (.bool x17.via):=hX.bx.blk.cell (i:=4) rfl
  have x5:wc.cell? ⟨g9,5,none⟩=some (.int .i64 x17.node):=hX.bx.blk.cell (i:=5) rfl
  have x6:wc.cell? ⟨g9,6,none⟩=some (.slice av (x17.ways.length) cv):=hX.bx.blk.cell (i:=6) rfl
  have fz0:=hbr.blk.frozen (i*7)
  have fz1:=hbr.blk.frozen (i*7+1)
  have fz2:=hbr.blk.frozen (i*7+2)
  have fz3:=hbr.blk.frozen (i*7+3)
  have fz4:=hbr.blk.frozen (i*7+4)
  have fz5:=hbr.blk.frozen (i*7+5)
  have fz6:=hbr.blk.frozen (i*7+6)
  have HR:Hid (SPx D b C w ((((((((wc.setCell ⟨gr,i*7,none⟩ (.int .i64 x17.id)).setCell ⟨gr,i*7+1,none⟩ (.bool x17.only)).setCell ⟨gr,i*7+2,none⟩ (.int .i64 x17.frm)).setCell ⟨gr,i*7+3,none⟩ (.int .i64 x17.to)).setCell ⟨gr,i*7+4,none⟩ (.bool x17.via)).setCell ⟨gr,i*7+5,none⟩ (.int .i64 x17.node)).setCell ⟨gr,i*7+6,none⟩ (.slice av (x17.ways.length) cv))) (spR k (N,S))):=HRES.out _ (hX.st.write hbr (by decide) hCr (S7 rfl) (hX.st.net.putR HNR.out HIN.out hX.row hX.fr) rfl).x
  clear hX HW3 HRES hbr et6
  go_wp2
  go_meet
  exact HR
 case rest=>
 have HI7:Hid (SOk (spR k X6).2/\(spR k X6).1.turns.length<=900000):=Qdp HI6.out
 clear HX6 HI6 B2 HNR
 generalize hX7:spR k X6=X7 at *
 clear hX7 X6
 have HX7:=Q0 hcut.out
 clear hcut
 obtain⟨a0,c0,a1,c1,a2,c2,a3,c3,B0,B1,B2,B3⟩:=HX7.out.box
 clear B0 B1 B2
 generalize hlen:X7.1.turns.length=nt at B3
 have HNT:Hid (X7.1.turns.length=nt):=hlen
 clear hlen
 go_upto_if 233 with fail
 go_cut [] from 230 to 252 (λwq=>Hid (SPx D b C w (wq) (spT k X7)))
 case first=>
  by_cases h0:nt=0
  ·have HR:Hid (SPx D b C w (wc) (spT k X7)):=by unfold Hid spT;rw[if_pos (by rw[HNT.out];exact h0)];exact HX7.out
   subst h0
   clear HX7 HI7 HNT
   go_wp2
   go_meet
   exact HR
  have h0':0<nt:=by omega
  obtain⟨v0,v1,v2,v3,vn,vw,vr,hX⟩:=HX7.out
  obtain⟨N,S⟩:=X7
  replace hX:SPs D b C w wc v0 v1 v2 v3 N S vn vw vr:=hX
  replace HNT:Hid (N.turns.length=nt):=HNT
  replace HI7:Hid (SOk S/\N.turns.length<=900000):=HI7
  have HNE:Hid (¬N.turns.length=0):=by unfold Hid;rw[HNT.out];exact h0
  have hwl:=HI7.out.2
  rw[HNT.out] at hwl
  obtain⟨gt,c3,e1⟩:=hX.s3 (by have:=HNE.out;omega)
  rw[HNT.out] at e1
  subst e1
  have HX:=Q0 hX
  have HOK:Hid (SOk S):=HI7.out.1
  clear HX7 hX
  go_wp2_with fail
  refine(Qe D b S nt wc HX.out.src HOK.out (by omega)).mono ?_
  rintro e w2 ⟨rfl,hs2,hc2⟩
  have H2:=Q0 (HX.out.drawn hs2 hc2)
  have hiv:=Qt HOK.out nt
  obtain⟨i,hi⟩:∃i:Nat,nv S nt=(i:Int):=⟨(nv S nt).toNat,by omega⟩
  have hin:i<nt:=by have:=hiv.2 (by omega);omega
  have HIN:Hid (i<N.turns.length):=by unfold Hid;rw[HNT.out];exact hin
  have HIV:Hid ((nv S nt).toNat=i):=by unfold Hid;rw[hi];simp
  rw[hi]
  obtain⟨hCt,⟨cst,hbt⟩,t1,t2⟩:=H2.out.net.turn HIN.out
  have b3:=H2.out.box.blk.cell (i:=3) rfl
  clear hs2 hc2 hiv hi HX HOK
  by_cases hk18:k=18
  ·subst hk18
   have HR:Hid (SPx D b C w (w2.setCell ⟨gt,i*3+2,none⟩ (.int .i64 1048577)) (spT 18 (N,S))):=by
    unfold Hid spT
    dsimp only
    rw[if_neg HNE.out,if_pos rfl,HNT.out,HIV.out]
    exact(H2.out.write hbt (by decide) hCt (Chg.set _ _ _ rfl) (H2.out.net.setTurn HNT.out HIN.out (by decide) rfl) rfl).x
   have fzt:=hbt.blk.frozen (i*3+2)
   clear H2 hbt hCt t1
   go_wp2
   go_meet
   exact HR
  by_cases hk19:k=19
  ·subst hk19
   have HR:Hid (SPx D b C w (w2.setCell ⟨gt,i*3+1,none⟩ (.int .i64 777777)) (spT 19 (N,S))):=by
    unfold Hid spT
    dsimp only
    rw[if_neg HNE.out,if_neg (by decide),if_pos rfl,HNT.out,HIV.out]
    exact(H2.out.write hbt (by decide) hCt (Chg.set _ _ _ rfl) (H2.out.net.setTurn HNT.out HIN.out (by decide) rfl) rfl).x
   have fzt:=hbt.blk.frozen (i*3+1)
   clear H2 hbt hCt t2
   go_wp2
   go_meet
   exact HR
  have HR:Hid (SPx D b C w (w2) (spT k (N,S))):=by
   unfold Hid spT
   dsimp only
   rw[if_neg HNE.out,if_neg hk18,if_neg hk19,HNT.out]
   exact H2.out.x
  have hq18:(k==18)=false:=by simp[hk18]
  have hq19:(k==19)=false:=by simp[hk19]
  clear H2 hbt hCt t1 t2
  go_wp2
  go_meet
  exact HR
 case rest=>
 clear HX7 HI7 B3 HNT
 generalize hX8:spT k X7=X8 at *
 clear hX8 X7
 have HX8:=Q0 hcut.out
 clear hcut
 have eY:=HEQ.out
 clear HEQ
 subst eY
 obtain⟨N8,S8⟩:=Y
 obtain⟨v0,v1,v2,v3,vn,vw,vr,hX⟩:=HX8.out
 replace hX:SPs D b C w wc v0 v1 v2 v3 N8 S8 vn vw vr:=hX
 obtain⟨a0,d0,rfl⟩:=Q3 hX.net.nodes
 obtain⟨a1,d1,rfl⟩:=Q3 hX.net.ways
 obtain⟨a2,d2,rfl⟩:=Q3 hX.net.rels
 obtain⟨a3,d3,rfl⟩:=Q3 hX.net.turns
 have HX:=Q0 hX
 have b0:=hX.box.blk.cell (i:=0) rfl
 have b1:=hX.box.blk.cell (i:=1) rfl
 have b2:=hX.box.blk.cell (i:=2) rfl
 have b3:=hX.box.blk.cell (i:=3) rfl
 have b4:=hX.box.blk.cell (i:=4) rfl
 have x0:=hX.res.blk.cell (i:=0) rfl
 have fz0:=hX.res.blk.frozen 0
 have x1:=hX.res.blk.cell (i:=1) rfl
 have fz1:=hX.res.blk.frozen 1
 have x2:=hX.res.blk.cell (i:=2) rfl
 have fz2:=hX.res.blk.frozen 2
 have x3:=hX.res.blk.cell (i:=3) rfl
 have fz3:=hX.res.blk.frozen 3
 have x4:=hX.res.blk.cell (i:=4) rfl
 have fz4:=hX.res.blk.frozen 4
 clear hX HX8
 generalize N8.nodes.length=m0 at *
 generalize N8.ways.length=m1 at *
 generalize N8.rels.length=m2 at *
 generalize N8.turns.length=m3 at *
 generalize huu:N8.uturn=uu at b4
 have HU:Hid (N8.uturn=uu):=huu
 clear huu
 have HBS:=Q0 (Tl (a0:=.slice a0 m0 d0) (a1:=.slice a1 m1 d1) (a2:=.slice a2 m2 d2) (a3:=.slice a3 m3 d3) (a4:=.int .i64 uu) HX.out.res)
 have HCF:Hid (Chg (λx=>x=w.heap.size+1) wc (((((wc.setCell ⟨w.heap.size+1,0,none⟩ (.slice a0 m0 d0)).setCell ⟨w.heap.size+1,1,none⟩ (.slice a1 m1 d1)).setCell ⟨w.heap.size+1,2,none⟩ (.slice a2 m2 d2)).setCell ⟨w.heap.size+1,3,none⟩ (.slice a3 m3 d3)).setCell ⟨w.heap.size+1,4,none⟩ (.int .i64 uu))):=Ts
 go_wp2
 generalize hWF:(((((wc.setCell ⟨w.heap.size+1,0,none⟩ (.slice a0 m0 d0)).setCell ⟨w.heap.size+1,1,none⟩ (.slice a1 m1 d1)).setCell ⟨w.heap.size+1,2,none⟩ (.slice a2 m2 d2)).setCell ⟨w.heap.size+1,3,none⟩ (.slice a3 m3 d3)).setCell ⟨w.heap.size+1,4,none⟩ (.int .i64 uu))=wF at HBS HCF ⊢
 have p0_:=HBS.out.blk.cell (i:=0) rfl
 have p1_:=HBS.out.blk.cell (i:=1) rfl
 have p2_:=HBS.out.blk.cell (i:=2) rfl
 have p3_:=HBS.out.blk.cell (i:=3) rfl
 have p4_:=HBS.out.blk.cell (i:=4) rfl
 refine bodyPost_ret (v:=.agg #[.slice a0 m0 d0,.slice a1 m1 d1,.slice a2 m2 d2,.slice a3 m3 d3,.int .i64 uu]) (by simp[results,Tryz.results37,go_sem,p0_,p1_,p2_,p3_,p4_]) rfl ?_
 refine⟨_,_,_,_,by rw[<-HU.out],⟨vn,vw,vr,HX.out.net.turnBox HX.out.res (by decide) (λe=>absurd e (by decide)) HCF.out⟩,Gr HX.out.src HX.out.res (by decide) HCF.out,HX.out.chg.trans (HCF.out.mono λy hy=>Or.inr (by have e:y=w.heap.size+1:=hy;have:=HX.out.low;omega))⟩
theorem Q0z {count ways:Int}{ids:List Int}(hc:1<=count){x:Q0x}{s:Int}(h:Q4d 0 s x):∀k i,i<k->1<=(wat (Xw count ways ids x k).ways i).weights.length
 |0,i,hi=>absurd hi (Nat.not_lt_zero _)
 |k+1,i,hi=>by
  have q:=Pq (ways:=ways) (ids:=ids) hc h k
  have h2:=Qj (Qj (Av (ways:=ways) (i:=k) q.ok) 2) 3
  have h3:=Q4k (ids:=ids) hc h2
  have h5:=Ks h2
  show 1<=(wat ((Xw count ways ids x k).ways++[_]) i).weights.length
  by_cases e:i=k
  ·have e2:i=(Xw count ways ids x k).ways.length:=by rw[q.len];exact e
   rw[e2,Zg]
   show 1<=(Ur count ids _).weights.length
   rw[h3.2.2.1]
   omega
  ·rw[Zf (by rw[q.len];omega)]
   exact Q0z hc h k i (by omega)
theorem Q45 {S:Src}(h:SOk S):(∀i,i<(Q8 S).ways.length->(wat (Q8 S).ways i).nodes.length=(wat (Q8 S).ways i).weights.length+1/\1<=(wat (Q8 S).ways i).weights.length)/\(Q8 S).turns.length<=12/\(Q8 S).rels=[]:=by
 have hz:=h.size
 have h1:=Qj h (1+S.size/2)
 have v1:=Qt h (1+S.size/2)
 have v2:=Qt h1 3
 have hc:2<=V0 S:=by
  unfold V0
  have:=v1.1
  omega
 have hn:=Gi (x:=⟨ns (ns S (1+S.size/2)) 3,nv (ns S (1+S.size/2)) 3,[]⟩) (show SOk (ns (ns S (1+S.size/2)) 3) from Qj h1 3) (show 0<=nv (ns S (1+S.size/2)) 3/\nv (ns S (1+S.size/2)) 3<=3 by have:=v2.2 (by omega);omega) rfl (V0 S).toNat
 have hnd:SOk (Zq S).S:=hn.1
 have hN:1<=dbN S:=by
  unfold dbN
  split<;>omega
 have h2:SOk (Vu S):=Qj hnd _
 have h3:SOk (ns (ns (ns (Vu S) (2+S.size)) 24) 4):=Qj (Qj (Qj h2 _) _) _
 have v4:=Qt (Qj (Qj h2 (2+S.size)) 24) 4
 have hw0:Q4d 0 (ns (ns (ns (Vu S) (2+S.size)) 24) 4).size ⟨ns (ns (ns (Vu S) (2+S.size)) 24) 4,nv (ns (ns (Vu S) (2+S.size)) 24) 4,[]⟩:=⟨h3,(show 0<=nv (ns (ns (Vu S) (2+S.size)) 24) 4/\nv (ns (ns (Vu S) (2+S.size)) 24) 4<=4+2*((0:Nat):Int) by have:=v4.2 (by omega);omega),rfl,rfl,λi hi=>absurd hi (Nat.not_lt_zero _)⟩
 have hy:=Pq (count:=dbN S) (ways:=Vc S) (ids:=Qc S) hN hw0 (Vc S).toNat
 have ho:=Q0z (count:=dbN S) (ways:=Vc S) (ids:=Qc S) hN hw0 (Vc S).toNat
 have hwl:(Q8 S).ways.length=(Vc S).toNat:=hy.len
 refine⟨λi hi=>⟨(hy.seg i (by rw[<-hwl];exact hi)).2,ho i (by rw[<-hwl];exact hi)⟩,?_,rfl⟩
 show(Za S).ts.length<=12
 unfold Za
 split
 ·simp
 ·have hwy:SOk (Z6 S).S:=hy.ok
  have k:=(G6 (ws:=(Z6 S).ways) (x:=⟨ns (Z6 S).S (3+S.size),[]⟩) (show SOk (ns (Z6 S).S (3+S.size)) from Qj hwy _) rfl (nv (Z6 S).S (3+S.size)).toNat).2
  have v:=(Qt hwy (3+S.size)).2 (by omega)
  have v':=(Qt hwy (3+S.size)).1
  omega
theorem Qcv {S:Src}(h:SOk S):U4 900000 (Xq S,riS S)/\(Xq S).ways.length<=12/\∀i,i<(Xq S).ways.length->(wat (Xq S).ways i).weights.length<=3:=by
 obtain⟨h1,h2,h3,h4⟩:=Q2k h
 obtain⟨m1,m2,m3⟩:=Q45 h
 have wy:∀i,i<(Q8 S).ways.length->(1<=(wat (Q8 S).ways i).nodes.length/\(wat (Q8 S).ways i).nodes.length<=900000)/\1<=(wat (Q8 S).ways i).weights.length/\(wat (Q8 S).ways i).weights.length<=900000:=λi hi=>by
  have:=h4 i hi
  have:=m1 i hi
  omega
 unfold Xq riS
 by_cases e:(Q8 S).ways.length=0
 ·rw[if_pos e,if_pos e]
  exact⟨⟨h1,by show 1<=(Q8 S).nodes.length;omega,by show(Q8 S).nodes.length<=900000;omega,by show(Q8 S).ways.length<=900000;omega,wy,by show(Q8 S).rels.length<=900000;rw[m3];simp,λi hi=>absurd hi (by rw[show(Q8 S,dbS S).1.rels=[] from m3];simp),by show(Q8 S).turns.length<=900000;omega⟩,h3,h4⟩
 ·rw[if_neg e,if_neg e]
  have hz:=h1.size
  have o2:SOk (Ec S):=Qj (Qj h1 _) _
  have v2:=Qt o2 3
  have v1:=Qt h1 (2+(dbS S).size)
  obtain⟨T,hT⟩:∃T,T=Ec S:=⟨_,rfl⟩
  rw[<-hT] at o2 v2
  have q0:Q7u 0 (ns T 3).size ⟨ns T 3,nv T 3,[]⟩:=⟨Qj o2 3,Eq.refl _,by show 0<=nv T 3/\nv T 3<=3+2*((0:Nat):Int);have:=v2.2 (by omega);omega,Eq.refl _,λr hr=>by simp at hr⟩
  have q:Q7u (Z9 S).toNat (ns T 3).size (riX S):=by
   unfold riX
   rw[<-hT]
   exact Q0h q0 _
  have hc:Z9 S<=10:=by
   unfold Z9
   have:=v1.2 (by omega)
   split<;>omega
  have hl:(riX S).rels.length=(Z9 S).toNat:=q.len
  generalize riX S=RX at q hl ⊢
  refine⟨⟨q.ok,by show 1<=(Q8 S).nodes.length;omega,by show(Q8 S).nodes.length<=900000;omega,by show(Q8 S).ways.length<=900000;omega,wy,by show RX.rels.length<=900000;omega,λi hi=>?_,by show(Q8 S).turns.length<=900000;omega⟩,h3,h4⟩
  have hi':i<RX.rels.length:=hi
  show(rat RX.rels i).ways.length<=900000
  rw[Pe hi']
  have:=q.wl _ (List.getElem_mem hi')
  omega
def WBd (N:Nt):Prop:=N.ways.length<=50/\∀i,i<N.ways.length->(wat N.ways i).weights.length<=150
theorem Q7w (ws:List Wy):∀k,(∀i,i<k->(wat ws i).weights.length<=150)->wsum ws k<=150*k
 |0,_=>Nat.le_refl _
 |k+1,h=>by
  have h1:=Q7w ws k (λi hi=>h i (by omega))
  have h2:=h k (by omega)
  show wsum ws k+(wat ws k).weights.length<=_
  omega
theorem WBd.sum {N:Nt}(h:WBd N):wsum N.ways N.ways.length<=1048576:=by
 have h1:=Q7w N.ways N.ways.length h.2
 have h2:=h.1
 omega
theorem Q7z {ws:List Wy}{i:Nat}(h:¬i<ws.length):(wat ws i).weights=[]:=by
 unfold wat
 rw[List.getD_eq_getElem?_getD,List.getElem?_eq_none (by omega)]
 rfl
theorem WBd.at {N:Nt}(h:WBd N)(i:Nat):(wat N.ways i).weights.length<=150:=by
 by_cases hi:i<N.ways.length
 ·exact h.2 i hi
 ·rw[Q7z hi];simp
theorem WBd.nWy {N:Nt}{i:Nat}{x:Wy}(h:WBd N)(hx:x.weights.length<=150):WBd (nWy N i x):=by
 refine⟨by show(N.ways.set i x).length<=50;rw[List.length_set];exact h.1,λj hj=>?_⟩
 show(wat (N.ways.set i x) j).weights.length<=150
 by_cases hi:i<N.ways.length
 ·rw[Vs hi]
  split
  ·exact hx
  ·exact h.at j
 ·rw[List.set_eq_of_length_le (by omega)]
  exact h.at j
theorem Qdm {k:Int}{N:Nt}{x:Wy}{S:Src}(hx:x.weights.length<=150):(Iu k N x S).1.weights.length<=150:=by
 unfold Iu
 repeat (first|(simp only[List.length_set,List.length_nil];omega)|exact hx|split)
theorem WBd.spAll {N:Nt}{S:Src}(h:WBd N):WBd (Tw N S).1:=by
 unfold Tw
 generalize nv S 20=k
 generalize hX:(N,ns S 20)=X
 have h0:WBd X.1:=by rw[<-hX];exact h
 clear hX
 have h1:WBd (sp0 k X).1:=by unfold sp0;split<;>exact h0
 generalize sp0 k X=X1 at h1
 have h2:WBd (sp1 k X1).1:=by unfold sp1;split<;>exact h1
 generalize sp1 k X1=X2 at h2
 have h3:WBd (sp2 k X2).1:=by unfold sp2;split<;>exact h2
 generalize sp2 k X2=X3 at h3
 have h4:WBd (sp3 k X3).1:=by unfold sp3;split<;>exact h3
 generalize sp3 k X3=X4 at h4
 have h5:WBd (sp4 k X4).1:=by unfold sp4;split<;>exact h4
 generalize sp4 k X4=X5 at h5
 have h6:WBd (spW k X5).1:=by
  unfold spW
  split
  ·exact h5
  ·split
   ·exact h5.nWy (h5.at _)
   ·split
    ·exact h5.nWy (Qdm (h5.at _))
    ·exact h5
 generalize spW k X5=X6 at h6
 have h7:WBd (spR k X6).1:=by unfold spR;split<;>exact h6
 generalize spR k X6=X7 at h7
 unfold spT
 split
 ·exact h7
 ·split
  ·exact h7
  ·split<;>exact h7
theorem Fd {α:Type}{f:Nat->α}{x:α}:∀{n:Nat},x∈J0 f n->∃i,x=f i
 |0,h=>by simp[J0] at h
 |n+1,h=>by
  rcases List.mem_append.1 (show x∈J0 f n++[f n] from h) with q|q
  ·exact Fd q
  ·exact⟨n,by simpa using q⟩
theorem WBd.of {N:Nt}(h:N.ways.length<=50)(hm:∀x∈N.ways,x.weights.length<=150):WBd N:=⟨h,λi hi=>by rw[Us hi];exact hm _ (List.getElem_mem hi)⟩
theorem Ad (id:Int)(bo:Bool)(a b:Int)(segs:Nat)(wt:Int):(lmW id bo a b segs wt).weights.length=segs:=Q0l wt segs
theorem lim_b {k:Int}{over:Nat}(ho:over<=1):WBd (Yi k over):=by
 have one:∀x∈J0 (λi=>lmW i true 0 1 100 1) 20,x.weights.length<=150:=λx hx=>by
  obtain⟨i,rfl⟩:=Fd hx
  rw[Ad]
  omega
 unfold Yi
 split
 ·refine WBd.of (by simp[Z4]) λx hx=>?_
  have e:x=lmW 3 (k==0) 0 1 (100+over) 1048576:=by simpa [Z4] using hx
  rw[e,Ad]
  omega
 ·split
  ·refine WBd.of (by simp) λx hx=>?_
   have e:x=lmW 3 true 0 1 1 5:=by simpa using hx
   rw[e,Ad]
   omega
  ·split
   ·exact WBd.of (by simp) λx hx=>by simp at hx
   ·split
    ·refine WBd.of ?_ λx hx=>?_
     ·show(J0 _ 20++_).length<=50
      rw[List.length_append,Jw]
      split<;>simp
     ·rcases List.mem_append.1 (show x∈J0 _ 20++_ from hx) with q|q
      ·exact one x q
      ·split at q
       ·have e:x=lmW 5000 false 1 0 1 1:=by simpa using q
        rw[e,Ad]
        omega
       ·simp at q
    ·split
     ·refine WBd.of (by simp) λx hx=>?_
      have e:x=lmW 0 true 0 1 1 1:=by simpa using hx
      rw[e,Ad]
      omega
     ·split
      ·refine WBd.of (by show(J0 _ 45).length<=50;rw[Jw];omega) λx hx=>?_
       obtain⟨i,rfl⟩:=Fd (show x∈J0 _ 45 from hx)
       rw[Ad]
       omega
      ·exact WBd.of (by simp[lm0]) λx hx=>by simp[lm0] at hx
def Zu (S:Src):Nt:=if nv S 40<8 then (Tw (Xq (ns S 40)) (riS (ns S 40))).1 else if nv S 40<10 then Tx (ns S 40) else Xq (ns S 40)
theorem Qc6 {S:Src}(h:SOk S):WBd (Zu S):=by
 have hr:WBd (Xq (ns S 40)):=by
  obtain⟨_,h2,h3⟩:=Qcv (Qj h 40)
  exact⟨by omega,λi hi=>by have:=h3 i hi;omega⟩
 unfold Zu
 split
 ·exact hr.spAll
 ·split
  ·unfold Tx
   have v:=Qt (Qj h 40) 2
   exact lim_b (by have:=v.2 (by omega);omega)
  ·exact hr
theorem Q0o (B:Nat)(v:Value)(code:List UInt8)(w:World)(h:HBy B w v code)(hl:code.length<=1048576) :
  Calls Tryz.prog 15 #[v] w λe w'=>(∃b,e=.returned (.pointer (some ⟨b,0,none⟩))/\J8 w.heap.size w' b (Wb code)/\w.heap.size<=b)/\Nx w w':=by
 obtain⟨ca,cc,rfl,_,hk⟩:=h
 generalize hn:code.length=n at *
 have HN:Hid (code.length=n):=hn
 have HK:Hid (0<n->∃b off,ca=some ⟨b,off,none⟩/\B<=b/\b<w.heap.size/\∀i,i<n->w.cell? ⟨b,off+i,none⟩=some (.int .u8 (Qw code i))):=hk
 clear hk hn
 go_enter Tryz.func15,Tryz.ntmps15
 go_wp2
 generalize hWA:w.alloc (.cells #[.slice none 0 0,.int .i64 0,.int .i64 0,.int .i64 0] 73)=wA
 have HXA:Hid (Nx w wA):=by unfold Hid;rw[<-hWA];exact Qd _ _
 have HBA:Hid (BT wA w.heap.size #[.slice none 0 0,.int .i64 0,.int .i64 0,.int .i64 0] 73):=by unfold Hid;rw[<-hWA];exact BT.new _ _ _ _ rfl
 clear hWA
 go_loopw [4] (λi wr=>∃(k c:Nat) (a:Option Addr),k<=n/\k<=4000/\i=.int .i64 k/\Hid (BT wr w.heap.size #[.slice a k c,.int .i64 0,.int .i64 0,.int .i64 0] 73)/\Hid (Zo w.heap.size wr (.slice a k c) (code.take k))/\Hid (Nx w wr)) (λi _=>n-(intOf i).toNat)
 case atStart=>exact⟨0,0,none,Nat.zero_le _,Nat.zero_le _,rfl,HBA,⟨rfl,Or.inl ⟨rfl,rfl⟩⟩,HXA⟩
 obtain⟨k,c,a,hkn,hk4,rfl,HB,HO,HX⟩:=hrel
 by_cases hlt:k<n/\k<4000
 ·obtain⟨h1,h2⟩:=hlt
  have h1':(k:Int)<n:=by omega
  have h2':(k:Int)<4000:=by omega
  obtain⟨cb,co,rfl,_,hcb,hc⟩:=HK.out (by omega)
  have cy:=Q1 HX.out hcb (hc k h1)
  have HTL:Hid ((code.take k).length=k):=by unfold Hid;rw[List.length_take,HN.out];omega
  have HOR:Hid (wr.ownsRow w.heap.size 5 1 (.slice a k c) k ((code.take k).map λx:UInt8=>Value.int .u8 (x.toNat:Int))):=by
   have h:=HO.out
   unfold Zo at h
   rw[HTL.out] at h
   exact h
  generalize hy:Qw code k=y at *
  have HY:Hid (Qw code k=y):=hy
  clear hc hy
  go_upto_region 5 with fail
  have HSN:Hid (∀q,Nx wr.drew q->(λq=>q.cell? ⟨w.heap.size,0,none⟩=some (.slice a k c)/\q.cell? ⟨cb,co+k,none⟩=some (.int .u8 y)) q):=λq hq=>⟨Qf hq (show wr.drew.cell? _=_ from HB.out.blk.cell (i:=0) rfl),Qf hq (show wr.drew.cell? _=_ from cy)⟩
  have HSS:Hid ((λq=>q.cell? ⟨w.heap.size,0,none⟩=some (.slice a k c)/\q.cell? ⟨cb,co+k,none⟩=some (.int .u8 y)) wr.drew):=HSN.out _ (Nx.refl _)
  have hmx:Tryz.prog.follows .mixedOrders=true:=by kernel_rfl
  have hzz:w.heap.size<=wr.heap.size:=HX.out.size
  refine(wpIn_wide (n:=9)).1 ?_
  refine Q9 (c:=9) (S:=λq=>q.cell? ⟨w.heap.size,0,none⟩=some (.slice a k c)/\q.cell? ⟨cb,co+k,none⟩=some (.int .u8 y)) hmx (by kernel_rfl) (λhw hcl=>?_)
  refine tq (i:=0) (v:=.pointer (some ⟨w.heap.size,0,none⟩)) (λhcl=>?_)
  refine tq (i:=1) (v:=.slice a k c) (λhcl=>?_)
  refine tq (i:=2) (v:=.slice (some ⟨cb,co,none⟩) n cc) (λhcl=>?_)
  refine tq (i:=3) (v:=.int .i64 (k:Int)) (λhcl=>?_)
  refine tq (i:=4) (v:=.pointer (some ⟨cb,co+k,none⟩)) (λhcl=>?_)
  refine tq (i:=5) (v:=.int .u8 y) (λhcl=>?_)
  refine Qk (i:=6) (by kernel_rfl) (wpOpIn_step rfl (λK hK=>?_))
  go_simp
  refine hK _ _ ⟨Or.inr (HSN.out _ (Qd _ _)),?_⟩
  clear hK K
  refine Qk (i:=7) (by kernel_rfl) (wpOpIn_step rfl (λK hK=>?_))
  refine Jo Q7e Tryz.underlying22 rfl (by decide) (by decide) rfl (.tmp 18) (.tmp 23) rfl w.heap.size k (.slice a k c) ((code.take k).map λx:UInt8=>Value.int .u8 (x.toNat:Int)) [.int .u8 y] wr.drew _ rfl (by simp[Act.eval]) (show wr.drew.ownsRow _ _ _ _ _ _ from HOR.out) (by simp[Act.eval]) rfl (by intro u hu;simp at hu;subst hu;rfl) (by omega) hzz ?_
  intro a1 c1 w1 r1 r2 r3
  have HB1:Hid (BT w1 w.heap.size #[.slice a k c,.int .i64 0,.int .i64 0,.int .i64 0] 73):=BT.row (show BT wr.drew _ _ _ from HB.out) (show wr.drew.ownsRow _ _ _ _ _ _ from HOR.out) (by decide) r2
  have HS1:Hid ((λq=>q.cell? ⟨w.heap.size,0,none⟩=some (.slice a k c)/\q.cell? ⟨cb,co+k,none⟩=some (.int .u8 y)) w1):=⟨HB1.out.blk.cell (i:=0) rfl,by
   refine(r2.cellAt ?_ ?_).trans cy
   ·exact Nat.lt_of_lt_of_le hcb HX.out.size
   ·intro e
    have:=(Ql HOR.out cb e.symm).1
    omega⟩
  refine hK _ _ ⟨Or.inr HS1.out,?_⟩
  clear hK K
  refine Qk (i:=8) (by kernel_rfl) (wpOpIn_step rfl (λK hK=>?_))
  go_simp
  refine hK _ _ ⟨Or.inr HS1.out,?_⟩
  clear hK K
  have g0:=HB1.out.blk.cell (i:=0) rfl
  have f0:=HB1.out.blk.frozen 0
  refine Qk (i:=9) (by kernel_rfl) (wpOpIn_step rfl (λK hK=>?_))
  go_simp
  refine hK _ _ ⟨Or.inl (by decide),?_⟩
  clear hK K
  refine Qi (by kernel_rfl) ?_ _
  clear hw hcl g0 f0 HSS HSN HS1
  have HB2:Hid (BT (w1.setCell ⟨w.heap.size,0,none⟩ (.slice a1 (k+1) c1)) w.heap.size #[.slice a1 (k+1) c1,.int .i64 0,.int .i64 0,.int .i64 0] 73):=HB1.out.set 0 _
  have HO2:Hid (Zo w.heap.size (w1.setCell ⟨w.heap.size,0,none⟩ (.slice a1 (k+1) c1)) (.slice a1 (k+1) c1) (code.take (k+1))):=by
   unfold Hid Zo
   have e1:code.take (k+1)=code.take k++[code.getD k 0]:=by
    rw[List.take_succ_eq_append_getElem (by rw[HN.out];exact h1)]
    simp[List.getD_eq_getElem?_getD,HN.out,h1]
   rw[e1,List.length_append,HTL.out,List.map_append]
   have e2:(Value.int .u8 y)=.int .u8 ((code.getD k 0).toNat:Int):=by rw[<-HY.out];rfl
   rw[e2] at r1
   exact Q2 r1 HB1.out (by decide) _ _
  have HX2:Hid (Nx w (w1.setCell ⟨w.heap.size,0,none⟩ (.slice a1 (k+1) c1))):=Below.setCell (Below.trans (HX.out.trans (show Nx wr wr.drew from(Below.refl _ _).drew)) (r2.below HX.out.size (λx hx=>(Ql HOR.out x hx.symm).1))) (Nat.le_refl _) _
  clear r1 r2 r3
  go_wp2
  go_roundw
  case rel=>exact⟨k+1,c1,a1,by omega,by omega,by go_num,HB2,HO2,HX2⟩
  case measure=>simp[intOf];omega
 have HTL:Hid ((code.take 4000).length=k/\code.take k=code.take 4000):=by
  have hk':k=min 4000 n:=by omega
  refine⟨by rw[List.length_take,HN.out];omega,?_⟩
  rw[hk',<-HN.out]
  simp[List.take_eq_take_iff]
 go_upto_region 3 with fail
 go_cut [14] from 7 to 13 (λs wc=>s=.bool false/\wc=wr)
 case first=>
  by_cases h1:k<n
  ·have d1:decide ((k:Int)<n)=true:=by simp;omega
   have d2:decide ((k:Int)<4000)=false:=by simp;omega
   have d3:¬(k:Int)<4000:=by omega
   have d4:(k:Int)<n:=by omega
   go_wp2
   go_meet
   exact⟨by first|rfl|simp;omega,rfl⟩
  ·have d1:decide ((k:Int)<n)=false:=by simp;omega
   have d4:¬(k:Int)<n:=by omega
   go_wp2
   go_meet
   exact⟨by first|rfl|simp;omega,rfl⟩
 case rest=>
 obtain⟨rfl,rfl⟩:=hcut
 have m2:=HB.out.blk.cell (i:=2) rfl
 have f2:=HB.out.blk.frozen 2
 go_upto_region 7 with fail
 generalize hW2:wc.setCell ⟨w.heap.size,2,none⟩ (.int .i64 ((n:Int)%1000+17))=w2
 have HO0:Hid (Zo w.heap.size wc (.slice a k c) (code.take 4000)):=by unfold Hid;rw[<-HTL.out.2];exact HO.out
 have hnm:0<=(n:Int)%1000+17/\(n:Int)%1000+17<1000003:=by omega
 generalize hm0:(n:Int)%1000+17=m0 at *
 have HM0:Hid ((n:Int)%1000+17=m0):=hm0
 have HB2:Hid (BT w2 w.heap.size #[.slice a k c,.int .i64 0,.int .i64 m0,.int .i64 0] 73):=by unfold Hid;rw[<-hW2];exact HB.out.set 2 _
 have HO2:Hid (Zo w.heap.size w2 (.slice a k c) (code.take 4000)):=by unfold Hid;rw[<-hW2];exact Q2 HO0.out HB.out (by decide) _ _
 have HX2:Hid (Nx w w2):=by unfold Hid;rw[<-hW2];exact Below.setCell HX.out (Nat.le_refl _) _
 generalize hct:code.take 4000=cT at *
 have HCT:Hid (code.take 4000=cT):=hct
 have HML:Hid (cT.length=k):=HTL.out.1
 clear hW2 hm0 m2 f2 HO HB HX HO0 HTL hct
 have HMI:Hid (∀j,0<=Uh cT m0 j/\Uh cT m0 j<1000003):=Q20 cT hnm
 go_wp2
 go_loopw [5] (λi wr=>∃j:Nat,j<=k/\i=.int .i64 j/\Hid (BT wr w.heap.size #[.slice a k c,.int .i64 0,.int .i64 (Uh cT m0 j),.int .i64 0] 73)/\Hid (Zo w.heap.size wr (.slice a k c) cT)/\Hid (Nx w wr)) (λi _=>k-(intOf i).toNat)
 case atStart=>exact⟨0,Nat.zero_le _,rfl,HB2,HO2,HX2⟩
 clear HB2 HO2 HX2
 obtain⟨j,hj,rfl,HBJ,HOJ,HXJ⟩:=hrel
 have g0:=HBJ.out.blk.cell (i:=0) rfl
 by_cases hjl:j<k
 ·have hjl':(j:Int)<k:=by omega
  obtain⟨a9,c9,e9,_,hk9⟩:=HOJ.out.held
  rw[HML.out] at e9 hk9
  simp only[Value.slice.injEq] at e9
  obtain⟨ea,ek,ec⟩:=e9
  subst ea ec
  clear ek
  obtain⟨gb,go,rfl,_,_,hc9⟩:=hk9 (by omega)
  have cy:wr.cell? ⟨gb,go+j,none⟩=some (.int .u8 (Qw cT j)):=hc9 j hjl
  have hyb:=Ih cT j
  have hmi:=HMI.out j
  have HSTP:Hid (Uh cT m0 (j+1)=(Uh cT m0 j*257+Qw cT j+1)%1000003):=rfl
  generalize Qw cT j=y at *
  generalize Uh cT m0 j=mm at *
  clear hk9 hc9
  go_upto_region 10 with fail
  clear g0
  have HSS:Hid ((λq=>q.cell? ⟨w.heap.size,2,none⟩=some (.int .i64 mm)/\q.cell? ⟨w.heap.size,0,none⟩=some (.slice (some ⟨gb,go,none⟩) k c)/\q.cell? ⟨gb,go+j,none⟩=some (.int .u8 y)) wr.drew):=⟨show wr.drew.cell? _=_ from HBJ.out.blk.cell (i:=2) rfl,show wr.drew.cell? _=_ from HBJ.out.blk.cell (i:=0) rfl,show wr.drew.cell? _=_ from cy⟩
  have hmx:Tryz.prog.follows .mixedOrders=true:=by kernel_rfl
  have g2:wr.drew.cell? ⟨w.heap.size,2,none⟩=some (.int .i64 mm):=HSS.out.1
  have f2:wr.drew.frozen? ⟨w.heap.size,2,none⟩=false:=HBJ.out.blk.drew.frozen 2
  refine(wpIn_wide (n:=9)).1 ?_
  refine Q9 (c:=13) (S:=λq=>q.cell? ⟨w.heap.size,2,none⟩=some (.int .i64 mm)/\q.cell? ⟨w.heap.size,0,none⟩=some (.slice (some ⟨gb,go,none⟩) k c)/\q.cell? ⟨gb,go+j,none⟩=some (.int .u8 y)) hmx (by kernel_rfl) (λhw hcl=>?_)
  refine tq (i:=0) (v:=.pointer (some ⟨w.heap.size,2,none⟩)) (λhcl=>?_)
  refine tq (i:=1) (v:=.int .i64 mm) (λhcl=>?_)
  refine tk (i:=2) (v:=.int .i64 (mm*257)) hw hcl ⟨Or.inl ⟨by kernel_rfl,?y2⟩,λ_=>rfl⟩ HSS.out (λhcl=>?_)
  case y2=>
   rintro q ⟨c1,c2,c3⟩
   go_simp
   exact Go.IntWalk.i64_in _ ⟨by omega,by omega⟩
  refine tq (i:=3) (v:=.pointer (some ⟨w.heap.size,0,none⟩)) (λhcl=>?_)
  refine tq (i:=4) (v:=.slice (some ⟨gb,go,none⟩) k c) (λhcl=>?_)
  refine tq (i:=5) (v:=.int .i64 (j:Int)) (λhcl=>?_)
  refine tq (i:=6) (v:=.pointer (some ⟨gb,go+j,none⟩)) (λhcl=>?_)
  refine tq (i:=7) (v:=.int .u8 y) (λhcl=>?_)
  refine tk (i:=8) (v:=.int .i64 y) hw hcl ⟨Or.inl ⟨by kernel_rfl,?y8⟩,λ_=>rfl⟩ HSS.out (λhcl=>?_)
  case y8=>
   rintro q ⟨c1,c2,c3⟩
   go_simp
   exact Go.IntWalk.i64_in _ ⟨by omega,by omega⟩
  refine tk (i:=9) (v:=.int .i64 (mm*257+y)) hw hcl ⟨Or.inl ⟨by kernel_rfl,?y9⟩,λ_=>rfl⟩ HSS.out (λhcl=>?_)
  case y9=>
   rintro q ⟨c1,c2,c3⟩
   go_simp
   exact Go.IntWalk.i64_in _ ⟨by omega,by omega⟩
  refine tk (i:=10) (v:=.int .i64 (mm*257+y+1)) hw hcl ⟨Or.inl ⟨by kernel_rfl,?y10⟩,λ_=>rfl⟩ HSS.out (λhcl=>?_)
  case y10=>
   rintro q ⟨c1,c2,c3⟩
   go_simp
   exact Go.IntWalk.i64_in _ ⟨by omega,by omega⟩
  refine tk (i:=11) (v:=.int .i64 ((mm*257+y+1)%1000003)) hw hcl ⟨Or.inl ⟨by kernel_rfl,?y11⟩,λ_=>rfl⟩ HSS.out (λhcl=>?_)
  case y11=>
   rintro q ⟨c1,c2,c3⟩
   go_simp
   exact Int.tmod_eq_emod_of_nonneg (by omega)
  refine tq (i:=12) (v:=.pointer (some ⟨w.heap.size,2,none⟩)) (λhcl=>?_)
  refine Qk (i:=13) (by kernel_rfl) (wpOpIn_step rfl (λK hK=>?_))
  go_simp
  refine hK _ _ ⟨Or.inl (by decide),?_⟩
  clear hK K
  refine Qi (by kernel_rfl) ?_ _
  clear hw hcl g2 f2 HSS
  have HB3:Hid (BT (wr.setCell ⟨w.heap.size,2,none⟩ (.int .i64 ((mm*257+y+1)%1000003))) w.heap.size #[.slice (some ⟨gb,go,none⟩) k c,.int .i64 0,.int .i64 (Uh cT m0 (j+1)),.int .i64 0] 73):=by unfold Hid;rw[HSTP.out];exact HBJ.out.set 2 _
  have HO3:Hid (Zo w.heap.size (wr.setCell ⟨w.heap.size,2,none⟩ (.int .i64 ((mm*257+y+1)%1000003))) (.slice (some ⟨gb,go,none⟩) k c) cT):=Q2 HOJ.out HBJ.out (by decide) _ _
  have HX3:Hid (Nx w (wr.setCell ⟨w.heap.size,2,none⟩ (.int .i64 ((mm*257+y+1)%1000003)))):=Below.setCell HXJ.out (Nat.le_refl _) _
  go_wp2
  go_roundw
  case rel=>exact⟨j+1,by omega,by go_num,HB3,HO3,Nx.drew HX3.out⟩
  case measure=>simp[intOf];omega
 have hjk:j=k:=by omega
 subst hjk
 have HSO:Hid (Wb code=⟨cT,0,Uh cT m0 j,if 8<1+(j:Int)/40 then 8 else 1+(j:Int)/40⟩):=by unfold Hid Wb;rw[HCT.out,HN.out,HM0.out,HML.out]
 have m3:=HBJ.out.blk.cell (i:=3) rfl
 have f3:=HBJ.out.blk.frozen 3
 generalize Uh cT m0 j=mm at *
 go_upto_region 12 with fail
 generalize hW3:wr.setCell ⟨w.heap.size,3,none⟩ (.int .i64 (1+(j:Int)/40))=w3
 have HB3:Hid (BT w3 w.heap.size #[.slice a j c,.int .i64 0,.int .i64 mm,.int .i64 (1+(j:Int)/40)] 73):=by unfold Hid;rw[<-hW3];exact HBJ.out.set 3 _
 have HO3:Hid (Zo w.heap.size w3 (.slice a j c) cT):=by unfold Hid;rw[<-hW3];exact Q2 HOJ.out HBJ.out (by decide) _ _
 have HX3:Hid (Nx w w3):=by unfold Hid;rw[<-hW3];exact Below.setCell HXJ.out (Nat.le_refl _) _
 clear hW3 m3 f3 g0
 have m3:=HB3.out.blk.cell (i:=3) rfl
 have f3:=HB3.out.blk.frozen 3
 by_cases h8:8<1+(j:Int)/40
 ·rw[if_pos h8] at HSO
  go_wp2
  go_ret
  rw[HSO.out]
  exact⟨⟨_,rfl,⟨_,HB3.out.set 3 (.int .i64 8),Q2 HO3.out HB3.out (by decide) _ _⟩,Nat.le_refl _⟩,Below.setCell HX3.out (Nat.le_refl _) _⟩
 ·rw[if_neg h8] at HSO
  go_wp2
  go_ret
  rw[HSO.out]
  exact⟨⟨_,rfl,⟨_,HB3.out,HO3.out⟩,Nat.le_refl _⟩,HX3.out⟩
theorem HBy.next {B:Nat}{w w':World}{v:Value}{bs:List UInt8}(h:HBy B w v bs)(k:Nx w w'):HBy B w' v bs:=Jl.mono h (Nat.le_refl _) k.size λb off hb hs i hi hc=>Qf k hc
theorem FR.spoil {D b C:Nat}{w0 w w':World}{S S':Src}{bl:List (Nat×Array Value×Nat)}(h:FR D b w0 w S bl)(hs:J8 D w' b S')(hc:Chg (λx=>x=b\/C<=x) w w')(hC:w0.heap.size<=C)(hb:∀p∈bl,p.1<C):FR D b w0 w' S' bl:=by
 obtain⟨v,hv,_⟩:=h.src
 refine⟨h.chg.young hc (λx hx hl=>?_),hs,λp hp=>⟨(h.bx p hp).1.chg hc (λe=>?_),(h.bx p hp).2⟩,h.ty,h.nd⟩
 ·rcases hx with e|e
  ·exact e
  ·omega
 ·rcases e with e|e
  ·exact(h.bx p hp).1.ne hv (h.ty p hp).1 e
  ·have:=hb p hp
   omega
theorem Ek (D b:Nat)(S:Src)(w:World)(hS:J8 D w b S)(hok:SOk S) :
  Calls Tryz.prog 14 #[.pointer (some ⟨b,0,none⟩)] w λe w'=>(∃v0 v1 v2 v3,e=.returned (.agg #[v0,v1,v2,v3,.int .i64 (Zu S).uturn])/\∃vn vw vr,ONt (w.heap.size+1) w' v0 v1 v2 v3 (Zu S) vn vw vr)/\Chg (Sx1 b) w w':=by
 have HOK:Hid (SOk S):=hok
 have HOK1:Hid (SOk (ns S 40)):=Qj hok 40
 have HS0:Hid (J8 D w b S):=hS
 clear hS hok
 go_enter Tryz.func14,Tryz.ntmps14
 go_upto_region 1 with fail
 generalize hWA:w.alloc (.cells #[.slice none 0 0,.slice none 0 0,.slice none 0 0,.slice none 0 0,.int .i64 0] 28)=wA
 have HA:Hid (FR D b w wA S [(w.heap.size,#[.slice none 0 0,.slice none 0 0,.slice none 0 0,.slice none 0 0,.int .i64 0],28)]):=by
  unfold Hid
  rw[<-hWA]
  have k0:FR D b w w S []:=⟨Chg.nx (Nx.refl _),HS0.out,λp hp=>absurd hp (by simp),λp hp=>absurd hp (by simp),List.nodup_nil⟩
  exact k0.alloc #[.slice none 0 0,.slice none 0 0,.slice none 0 0,.slice none 0 0,.int .i64 0] 28 (by decide)
 have HZ:Hid (w.heap.size+1=wA.heap.size):=by unfold Hid;rw[<-hWA,Q7]
 clear hWA
 go_wp2_with fail
 refine(Qe D b S 40 wA HA.out.src HOK.out (by omega)).mono ?_
 rintro e w1 ⟨rfl,hs1,hc1⟩
 have H1:=Q0 (HA.out.drawn hs1 hc1)
 have HZ1:Hid (w.heap.size+1<=w1.heap.size):=by have:=hc1.size;have:=HZ.out;unfold Hid;omega
 have HLD:Hid (Zu S=if nv S 40<8 then (Tw (Xq (ns S 40)) (riS (ns S 40))).1 else if nv S 40<10 then Tx (ns S 40) else Xq (ns S 40)):=rfl
 generalize nv S 40=kk at *
 clear hs1 hc1 HA HZ
 by_cases h8:kk<8
 ·have HLN:Hid (Zu S=(Tw (Xq (ns S 40)) (riS (ns S 40))).1):=by unfold Hid;rw[HLD.out,if_pos h8]
  clear HLD
  go_wp2_with fail
  refine(Wr D b (ns S 40) w1 H1.out.src HOK1.out).mono ?_
  rintro e w2 ⟨v0,v1,v2,v3,vn,vw,vr,rfl,hO2,hs2,hc2⟩
  have H2:=Q0 (H1.out.drawn hs2 hc2)
  have HSI:=Q0 (Qcv HOK1.out).1
  have HO2:=Q0 hO2
  have HC2:Hid (w1.heap.size+1<=w2.heap.size):=by
   obtain⟨g,c,cs,-,hg,-,hb,-⟩:=hO2.nodes.open (show 0<(Xq (ns S 40)).nodes.length from HSI.out.n1)
   have:=hb.lt
   unfold Hid
   omega
  clear hs2 hc2 hO2 H1
  go_wp2_with fail
  refine(Q24 D b (w1.heap.size+1) v0 v1 v2 v3 _ vn vw vr (riS (ns S 40)) w2 H2.out.src HO2.out HC2.out HSI.out).mono ?_
  rintro e w3 ⟨v0,v1,v2,v3,vn,vw,vr,rfl,hO3,hs3,hc3⟩
  have H3:Hid (FR D b w w3 _ [(w.heap.size,#[.slice none 0 0,.slice none 0 0,.slice none 0 0,.slice none 0 0,.int .i64 0],28)]):=H2.out.spoil hs3 hc3 (by have:=HZ1.out;omega) (λp hp=>by have e:p=(w.heap.size,#[.slice none 0 0,.slice none 0 0,.slice none 0 0,.slice none 0 0,.int .i64 0],28):=(by simpa using hp);rw[e];have:=HZ1.out;show w.heap.size<_;omega)
  have O3:=Q0 (hO3.base (show w.heap.size+1<=w1.heap.size+1 by have:=HZ1.out;omega))
  clear hs3 hc3 hO3 HSI HC2 HO2 H2
  obtain⟨a0,q0,e0⟩:=Q3 O3.out.nodes
  obtain⟨a1,q1,e1⟩:=Q3 O3.out.ways
  obtain⟨a2,q2,e2⟩:=Q3 O3.out.rels
  obtain⟨a3,q3,e3⟩:=Q3 O3.out.turns
  generalize hN0:(Tw (Xq (ns S 40)) (riS (ns S 40))).1=NN at *
  clear hN0
  generalize NN.nodes.length=l0 at e0
  generalize NN.ways.length=l1 at e1
  generalize NN.rels.length=l2 at e2
  generalize NN.turns.length=l3 at e3
  generalize huu:NN.uturn=uu
  have HU:Hid (NN.uturn=uu):=huu
  clear huu
  subst e0 e1 e2 e3
  have BR:BT w3 w.heap.size #[.slice none 0 0,.slice none 0 0,.slice none 0 0,.slice none 0 0,.int .i64 0] 28:=H3.out.at 0 rfl
  have x0:=BR.blk.cell (i:=0) rfl
  have fz0:=BR.blk.frozen 0
  have x1:=BR.blk.cell (i:=1) rfl
  have fz1:=BR.blk.frozen 1
  have x2:=BR.blk.cell (i:=2) rfl
  have fz2:=BR.blk.frozen 2
  have x3:=BR.blk.cell (i:=3) rfl
  have fz3:=BR.blk.frozen 3
  have x4:=BR.blk.cell (i:=4) rfl
  have fz4:=BR.blk.frozen 4
  have BS:=Tl (a0:=.slice a0 l0 q0) (a1:=.slice a1 l1 q1) (a2:=.slice a2 l2 q2) (a3:=.slice a3 l3 q3) (a4:=.int .i64 uu) BR
  have P0:Hid (_=some (Value.slice a0 l0 q0)):=BS.blk.cell (i:=0) rfl
  have P1:Hid (_=some (Value.slice a1 l1 q1)):=BS.blk.cell (i:=1) rfl
  have P2:Hid (_=some (Value.slice a2 l2 q2)):=BS.blk.cell (i:=2) rfl
  have P3:Hid (_=some (Value.slice a3 l3 q3)):=BS.blk.cell (i:=3) rfl
  have P4:Hid (_=some (Value.int .i64 uu)):=BS.blk.cell (i:=4) rfl
  have HCF:Hid (Chg (λx=>x=w.heap.size) w3 (((((w3.setCell ⟨w.heap.size,0,none⟩ (.slice a0 l0 q0)).setCell ⟨w.heap.size,1,none⟩ (.slice a1 l1 q1)).setCell ⟨w.heap.size,2,none⟩ (.slice a2 l2 q2)).setCell ⟨w.heap.size,3,none⟩ (.slice a3 l3 q3)).setCell ⟨w.heap.size,4,none⟩ (.int .i64 uu))):=Ts
  have HBS:=Q0 BS
  clear BS BR
  go_wp2
  generalize hWF:(((((w3.setCell ⟨w.heap.size,0,none⟩ (.slice a0 l0 q0)).setCell ⟨w.heap.size,1,none⟩ (.slice a1 l1 q1)).setCell ⟨w.heap.size,2,none⟩ (.slice a2 l2 q2)).setCell ⟨w.heap.size,3,none⟩ (.slice a3 l3 q3)).setCell ⟨w.heap.size,4,none⟩ (.int .i64 uu))=wF at P0 P1 P2 P3 P4 HBS HCF ⊢
  have p0_:=P0.out
  have p1_:=P1.out
  have p2_:=P2.out
  have p3_:=P3.out
  have p4_:=P4.out
  refine bodyPost_ret (v:=.agg #[.slice a0 l0 q0,.slice a1 l1 q1,.slice a2 l2 q2,.slice a3 l3 q3,.int .i64 uu]) (by simp[results,Tryz.results14,go_sem,p0_,p1_,p2_,p3_,p4_]) rfl ?_
  have hF:=H3.out.turn 0 rfl HCF.out HBS.out
  have hO:=O3.out.turnBox (show BT w3 w.heap.size #[.slice none 0 0,.slice none 0 0,.slice none 0 0,.slice none 0 0,.int .i64 0] 28 from H3.out.at 0 rfl) (by decide) (λe=>absurd e (by decide)) HCF.out
  rw[HLN.out,<-HU.out]
  exact⟨⟨_,_,_,_,rfl,_,_,_,hO⟩,hF.chg⟩
 ·by_cases h10:kk<10
  ·have HLN:Hid (Zu S=Tx (ns S 40)):=by unfold Hid;rw[HLD.out,if_neg h8,if_pos h10]
   clear HLD
   go_wp2_with fail
   refine(Q25 D b (ns S 40) w1 H1.out.src HOK1.out).mono ?_
   rintro e w3 ⟨⟨v0,v1,v2,v3,rfl,vn,vw,vr,hO3⟩,hs3,hc3⟩
   have H3:=Q0 (H1.out.drawn hs3 hc3)
   have O3:=Q0 (hO3.base (show w.heap.size+1<=w1.heap.size+1 by have:=HZ1.out;omega))
   clear hs3 hc3 hO3 H1
   obtain⟨a0,q0,e0⟩:=Q3 O3.out.nodes
   obtain⟨a1,q1,e1⟩:=Q3 O3.out.ways
   obtain⟨a2,q2,e2⟩:=Q3 O3.out.rels
   obtain⟨a3,q3,e3⟩:=Q3 O3.out.turns
   generalize hN0:Tx (ns S 40)=NN at *
   clear hN0
   generalize NN.nodes.length=l0 at e0
   generalize NN.ways.length=l1 at e1
   generalize NN.rels.length=l2 at e2
   generalize NN.turns.length=l3 at e3
   generalize huu:NN.uturn=uu
   have HU:Hid (NN.uturn=uu):=huu
   clear huu
   subst e0 e1 e2 e3
   have BR:BT w3 w.heap.size #[.slice none 0 0,.slice none 0 0,.slice none 0 0,.slice none 0 0,.int .i64 0] 28:=H3.out.at 0 rfl
   have x0:=BR.blk.cell (i:=0) rfl
   have fz0:=BR.blk.frozen 0
   have x1:=BR.blk.cell (i:=1) rfl
   have fz1:=BR.blk.frozen 1
   have x2:=BR.blk.cell (i:=2) rfl
   have fz2:=BR.blk.frozen 2
   have x3:=BR.blk.cell (i:=3) rfl
   have fz3:=BR.blk.frozen 3
   have x4:=BR.blk.cell (i:=4) rfl
   have fz4:=BR.blk.frozen 4
   have BS:=Tl (a0:=.slice a0 l0 q0) (a1:=.slice a1 l1 q1) (a2:=.slice a2 l2 q2) (a3:=.slice a3 l3 q3) (a4:=.int .i64 uu) BR
   have P0:Hid (_=some (Value.slice a0 l0 q0)):=BS.blk.cell (i:=0) rfl
   have P1:Hid (_=some (Value.slice a1 l1 q1)):=BS.blk.cell (i:=1) rfl
   have P2:Hid (_=some (Value.slice a2 l2 q2)):=BS.blk.cell (i:=2) rfl
   have P3:Hid (_=some (Value.slice a3 l3 q3)):=BS.blk.cell (i:=3) rfl
   have P4:Hid (_=some (Value.int .i64 uu)):=BS.blk.cell (i:=4) rfl
   have HCF:Hid (Chg (λx=>x=w.heap.size) w3 (((((w3.setCell ⟨w.heap.size,0,none⟩ (.slice a0 l0 q0)).setCell ⟨w.heap.size,1,none⟩ (.slice a1 l1 q1)).setCell ⟨w.heap.size,2,none⟩ (.slice a2 l2 q2)).setCell ⟨w.heap.size,3,none⟩ (.slice a3 l3 q3)).setCell ⟨w.heap.size,4,none⟩ (.int .i64 uu))):=Ts
   have HBS:=Q0 BS
   clear BS BR
   go_wp2
   generalize hWF:(((((w3.setCell ⟨w.heap.size,0,none⟩ (.slice a0 l0 q0)).setCell ⟨w.heap.size,1,none⟩ (.slice a1 l1 q1)).setCell ⟨w.heap.size,2,none⟩ (.slice a2 l2 q2)).setCell ⟨w.heap.size,3,none⟩ (.slice a3 l3 q3)).setCell ⟨w.heap.size,4,none⟩ (.int .i64 uu))=wF at P0 P1 P2 P3 P4 HBS HCF ⊢
   have p0_:=P0.out
   have p1_:=P1.out
   have p2_:=P2.out
   have p3_:=P3.out
   have p4_:=P4.out
   refine bodyPost_ret (v:=.agg #[.slice a0 l0 q0,.slice a1 l1 q1,.slice a2 l2 q2,.slice a3 l3 q3,.int .i64 uu]) (by simp[results,Tryz.results14,go_sem,p0_,p1_,p2_,p3_,p4_]) rfl ?_
   have hF:=H3.out.turn 0 rfl HCF.out HBS.out
   have hO:=O3.out.turnBox (show BT w3 w.heap.size #[.slice none 0 0,.slice none 0 0,.slice none 0 0,.slice none 0 0,.int .i64 0] 28 from H3.out.at 0 rfl) (by decide) (λe=>absurd e (by decide)) HCF.out
   rw[HLN.out,<-HU.out]
   exact⟨⟨_,_,_,_,rfl,_,_,_,hO⟩,hF.chg⟩
  ·have HLN:Hid (Zu S=Xq (ns S 40)):=by unfold Hid;rw[HLD.out,if_neg h8,if_neg h10]
   clear HLD
   go_wp2_with fail
   refine(Wr D b (ns S 40) w1 H1.out.src HOK1.out).mono ?_
   rintro e w3 ⟨v0,v1,v2,v3,vn,vw,vr,rfl,hO3,hs3,hc3⟩
   have H3:=Q0 (H1.out.drawn hs3 hc3)
   have O3:=Q0 (hO3.base (show w.heap.size+1<=w1.heap.size+1 by have:=HZ1.out;omega))
   clear hs3 hc3 hO3 H1
   obtain⟨a0,q0,e0⟩:=Q3 O3.out.nodes
   obtain⟨a1,q1,e1⟩:=Q3 O3.out.ways
   obtain⟨a2,q2,e2⟩:=Q3 O3.out.rels
   obtain⟨a3,q3,e3⟩:=Q3 O3.out.turns
   generalize hN0:Xq (ns S 40)=NN at *
   clear hN0
   generalize NN.nodes.length=l0 at e0
   generalize NN.ways.length=l1 at e1
   generalize NN.rels.length=l2 at e2
   generalize NN.turns.length=l3 at e3
   generalize huu:NN.uturn=uu
   have HU:Hid (NN.uturn=uu):=huu
   clear huu
   subst e0 e1 e2 e3
   have BR:BT w3 w.heap.size #[.slice none 0 0,.slice none 0 0,.slice none 0 0,.slice none 0 0,.int .i64 0] 28:=H3.out.at 0 rfl
   have x0:=BR.blk.cell (i:=0) rfl
   have fz0:=BR.blk.frozen 0
   have x1:=BR.blk.cell (i:=1) rfl
   have fz1:=BR.blk.frozen 1
   have x2:=BR.blk.cell (i:=2) rfl
   have fz2:=BR.blk.frozen 2
   have x3:=BR.blk.cell (i:=3) rfl
   have fz3:=BR.blk.frozen 3
   have x4:=BR.blk.cell (i:=4) rfl
   have fz4:=BR.blk.frozen 4
   have BS:=Tl (a0:=.slice a0 l0 q0) (a1:=.slice a1 l1 q1) (a2:=.slice a2 l2 q2) (a3:=.slice a3 l3 q3) (a4:=.int .i64 uu) BR
   have P0:Hid (_=some (Value.slice a0 l0 q0)):=BS.blk.cell (i:=0) rfl
   have P1:Hid (_=some (Value.slice a1 l1 q1)):=BS.blk.cell (i:=1) rfl
   have P2:Hid (_=some (Value.slice a2 l2 q2)):=BS.blk.cell (i:=2) rfl
   have P3:Hid (_=some (Value.slice a3 l3 q3)):=BS.blk.cell (i:=3) rfl
   have P4:Hid (_=some (Value.int .i64 uu)):=BS.blk.cell (i:=4) rfl
   have HCF:Hid (Chg (λx=>x=w.heap.size) w3 (((((w3.setCell ⟨w.heap.size,0,none⟩ (.slice a0 l0 q0)).setCell ⟨w.heap.size,1,none⟩ (.slice a1 l1 q1)).setCell ⟨w.heap.size,2,none⟩ (.slice a2 l2 q2)).setCell ⟨w.heap.size,3,none⟩ (.slice a3 l3 q3)).setCell ⟨w.heap.size,4,none⟩ (.int .i64 uu))):=Ts
   have HBS:=Q0 BS
   clear BS BR
   go_wp2
   generalize hWF:(((((w3.setCell ⟨w.heap.size,0,none⟩ (.slice a0 l0 q0)).setCell ⟨w.heap.size,1,none⟩ (.slice a1 l1 q1)).setCell ⟨w.heap.size,2,none⟩ (.slice a2 l2 q2)).setCell ⟨w.heap.size,3,none⟩ (.slice a3 l3 q3)).setCell ⟨w.heap.size,4,none⟩ (.int .i64 uu))=wF at P0 P1 P2 P3 P4 HBS HCF ⊢
   have p0_:=P0.out
   have p1_:=P1.out
   have p2_:=P2.out
   have p3_:=P3.out
   have p4_:=P4.out
   refine bodyPost_ret (v:=.agg #[.slice a0 l0 q0,.slice a1 l1 q1,.slice a2 l2 q2,.slice a3 l3 q3,.int .i64 uu]) (by simp[results,Tryz.results14,go_sem,p0_,p1_,p2_,p3_,p4_]) rfl ?_
   have hF:=H3.out.turn 0 rfl HCF.out HBS.out
   have hO:=O3.out.turnBox (show BT w3 w.heap.size #[.slice none 0 0,.slice none 0 0,.slice none 0 0,.slice none 0 0,.int .i64 0] 28 from H3.out.at 0 rfl) (by decide) (λe=>absurd e (by decide)) HCF.out
   rw[HLN.out,<-HU.out]
   exact⟨⟨_,_,_,_,rfl,_,_,_,hO⟩,hF.chg⟩
end Go.Proofs.YtmmolhlihhdkcaaGreatDoor
