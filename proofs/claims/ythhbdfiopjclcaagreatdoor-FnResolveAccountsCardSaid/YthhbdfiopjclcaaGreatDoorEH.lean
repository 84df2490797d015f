import Derived.Test.YthhbdfiopjclcaaGreatDoorEG
import Derived.Test.YthhbdfiopjclcaaGreatDoorEF
import Derived.Test.YthhbdfiopjclcaaGreatDoorDV
namespace Go.Proofs.YthhbdfiopjclcaaGreatDoor
open Go.RowKit Go.Sort
set_option linter.unusedVariables false
set_option maxRecDepth 1000000
set_option maxHeartbeats 16000000
theorem l1Source_new (B:Nat)(v:Value)(code:List UInt8)(w:World)(h:HBy B w v code)(hl:code.length<=1048576) :
  Calls Tryz.prog 12 #[v] w λe w'=>(∃b,e=.returned (.pointer (some ⟨b,0,none⟩))/\Jg w.heap.size w' b (srcOf code)/\w.heap.size<=b)/\Nx w w':=by
 obtain⟨ca,cc,rfl,_,hk⟩:=h
 generalize hn:code.length=n at *
 have HN:Hid (code.length=n):=hn
 have HK:=mh hk
 clear hk hn
 go_enter Tryz.func12,Tryz.ntmps12
 go_wp2
 generalize hWA:w.alloc (.cells #[.slice none 0 0,.int .i64 0,.int .i64 0,.int .i64 0] 73)=wA
 have HXA:Hid (Nx w wA):=by unfold Hid;rw[<-hWA];exact Qc _ _
 have HBA:Hid (BT wA w.heap.size #[.slice none 0 0,.int .i64 0,.int .i64 0,.int .i64 0] 73):=by unfold Hid;rw[<-hWA];exact BT.new _ _ _ _ rfl
 clear hWA
 go_loopw [4] (λi wr=>∃(k c:Nat) (a:Option Addr),k<=n/\k<=4000/\i=.int .i64 k/\Hid (BT wr w.heap.size #[.slice a k c,.int .i64 0,.int .i64 0,.int .i64 0] 73)/\Hid (U3 w.heap.size wr (.slice a k c) (code.take k))/\Hid (Nx w wr)) (λi _=>n-(intOf i).toNat)
 case atStart=>exact⟨0,0,none,Nat.zero_le _,Nat.zero_le _,rfl,HBA,⟨rfl,Or.inl ⟨rfl,rfl⟩⟩,HXA⟩
 obtain⟨k,c,a,hkn,hk4,rfl,HB,HO,HX⟩:=hrel
 by_cases hlt:k<n/\k<4000
 ·obtain⟨h1,h2⟩:=hlt
  have h1':(k:Int)<n:=by omega
  have h2':(k:Int)<4000:=by omega
  obtain⟨cb,co,rfl,_,hcb,hc⟩:=HK.out (by omega)
  have cy:=Q0 HX.out hcb (hc k h1)
  have HTL:Hid ((code.take k).length=k):=by unfold Hid;rw[List.length_take,HN.out];omega
  have HOR:Hid (wr.ownsRow w.heap.size 5 1 (.slice a k c) k ((code.take k).map λx:UInt8=>Value.int .u8 (x.toNat:Int))):=by
   have h:=HO.out
   unfold U3 at h
   rw[HTL.out] at h
   exact h
  generalize hy:Xa code k=y at *
  have HY:Hid (Xa code k=y):=hy
  clear hc hy
  go_upto_region 5 with fail
  have HSN:Hid (∀q,Nx wr.drew q->(λq=>q.cell? ⟨w.heap.size,0,none⟩=some (.slice a k c)/\q.cell? ⟨cb,co+k,none⟩=some (.int .u8 y)) q):=λq hq=>⟨Q3 hq (show wr.drew.cell? _=_ from HB.out.blk.cell (i:=0) rfl),Q3 hq (show wr.drew.cell? _=_ from cy)⟩
  have HSS:Hid ((λq=>q.cell? ⟨w.heap.size,0,none⟩=some (.slice a k c)/\q.cell? ⟨cb,co+k,none⟩=some (.int .u8 y)) wr.drew):=HSN.out _ (Nx.refl _)
  have hmx:Tryz.prog.follows .mixedOrders=true:=by kernel_rfl
  have hzz:w.heap.size<=wr.heap.size:=HX.out.size
  refine(wpIn_wide (n:=9)).1 ?_
  refine Q9 (c:=9) (S:=λq=>q.cell? ⟨w.heap.size,0,none⟩=some (.slice a k c)/\q.cell? ⟨cb,co+k,none⟩=some (.int .u8 y)) hmx (by kernel_rfl) (λhw hcl=>?_)
  refine tq (i:=0) (v:=.pointer (some ⟨w.heap.size,0,none⟩)) (λhcl=>?_)
  refine tq (i:=1) (v:=.slice a k c) (λhcl=>?_)
  refine tq (i:=2) (v:=.slice (some ⟨cb,co,none⟩) n cc) (λhcl=>?_)
  refine tq (i:=3) (v:=.int .i64 (k:Int)) (λhcl=>?_)
  refine tq (i:=4) (v:=.pointer (some ⟨cb,co+k,none⟩)) (λhcl=>?_)
  refine tq (i:=5) (v:=.int .u8 y) (λhcl=>?_)
  refine Q5 (i:=6) (by kernel_rfl) (wpOpIn_step rfl (λK hK=>?_))
  go_simp
  refine hK _ _ ⟨Or.inr (HSN.out _ (Qc _ _)),?_⟩
  clear hK K
  refine Q5 (i:=7) (by kernel_rfl) (wpOpIn_step rfl (λK hK=>?_))
  refine Xb infoByteE Tryz.underlying22 rfl (by decide) (by decide) rfl (.tmp 18) (.tmp 23) rfl w.heap.size k (.slice a k c) ((code.take k).map λx:UInt8=>Value.int .u8 (x.toNat:Int)) [.int .u8 y] wr.drew _ rfl (by simp[Act.eval]) (show wr.drew.ownsRow _ _ _ _ _ _ from HOR.out) (by simp[Act.eval]) rfl (by intro u hu;simp at hu;subst hu;rfl) (by omega) hzz ?_
  intro a1 c1 w1 r1 r2 r3
  have HB1:Hid (BT w1 w.heap.size #[.slice a k c,.int .i64 0,.int .i64 0,.int .i64 0] 73):=BT.row (show BT wr.drew _ _ _ from HB.out) (show wr.drew.ownsRow _ _ _ _ _ _ from HOR.out) (by decide) r2
  have HS1:Hid ((λq=>q.cell? ⟨w.heap.size,0,none⟩=some (.slice a k c)/\q.cell? ⟨cb,co+k,none⟩=some (.int .u8 y)) w1):=⟨HB1.out.blk.cell (i:=0) rfl,by
   refine(r2.cellAt ?_ ?_).trans cy
   ·exact Nat.lt_of_lt_of_le hcb HX.out.size
   ·intro e
    have:=(Qf HOR.out cb e.symm).1
    omega⟩
  refine hK _ _ ⟨Or.inr HS1.out,?_⟩
  clear hK K
  refine Q5 (i:=8) (by kernel_rfl) (wpOpIn_step rfl (λK hK=>?_))
  go_simp
  refine hK _ _ ⟨Or.inr HS1.out,?_⟩
  clear hK K
  have g0:=HB1.out.blk.cell (i:=0) rfl
  have f0:=HB1.out.blk.frozen 0
  refine Q5 (i:=9) (by kernel_rfl) (wpOpIn_step rfl (λK hK=>?_))
  go_simp
  refine hK _ _ ⟨Or.inl (by decide),?_⟩
  clear hK K
  refine Qj (by kernel_rfl) ?_ _
  clear hw hcl g0 f0 HSS HSN HS1
  have HB2:Hid (BT (w1.setCell ⟨w.heap.size,0,none⟩ (.slice a1 (k+1) c1)) w.heap.size #[.slice a1 (k+1) c1,.int .i64 0,.int .i64 0,.int .i64 0] 73):=HB1.out.set 0 _
  have HO2:Hid (U3 w.heap.size (w1.setCell ⟨w.heap.size,0,none⟩ (.slice a1 (k+1) c1)) (.slice a1 (k+1) c1) (code.take (k+1))):=by
   unfold Hid U3
   have e1:code.take (k+1)=code.take k++[code.getD k 0]:=by
    rw[List.take_succ_eq_append_getElem (by rw[HN.out];exact h1)]
    simp[List.getD_eq_getElem?_getD,HN.out,h1]
   rw[e1,List.length_append,HTL.out,List.map_append]
   have e2:(Value.int .u8 y)=.int .u8 ((code.getD k 0).toNat:Int):=by rw[<-HY.out];rfl
   rw[e2] at r1
   exact Q7 r1 HB1.out (by decide) _ _
  have HX2:Hid (Nx w (w1.setCell ⟨w.heap.size,0,none⟩ (.slice a1 (k+1) c1))):=Below.setCell (Below.trans (HX.out.trans (show Nx wr wr.drew from(Below.refl _ _).drew)) (r2.below HX.out.size (λx hx=>(Qf HOR.out x hx.symm).1))) (Nat.le_refl _) _
  clear r1 r2 r3
  go_wp2
  go_roundw
  case rel=>exact⟨k+1,c1,a1,by omega,by omega,by go_num,HB2,HO2,HX2⟩
  case measure=>simp[intOf];omega
 have HTL:Hid ((code.take 4000).length=k/\code.take k=code.take 4000):=by
  have hk':k=min 4000 n:=by omega
  refine⟨by rw[List.length_take,HN.out];omega,?_⟩
  rw[hk',<-HN.out]
  simp[List.take_eq_take_iff]
 go_upto_region 3 with fail
 go_cut [14] from 7 to 13 (λs wc=>s=.bool false/\wc=wr)
 case first=>
  by_cases h1:k<n
  ·have d1:decide ((k:Int)<n)=true:=by simp;omega
   have d2:decide ((k:Int)<4000)=false:=by simp;omega
   have d3:¬(k:Int)<4000:=by omega
   have d4:(k:Int)<n:=by omega
   go_wp2
   go_meet
   exact⟨by first|rfl|simp;omega,rfl⟩
  ·have d1:decide ((k:Int)<n)=false:=by simp;omega
   have d4:¬(k:Int)<n:=by omega
   go_wp2
   go_meet
   exact⟨by first|rfl|simp;omega,rfl⟩
 case rest=>
 obtain⟨rfl,rfl⟩:=hcut
 have m2:=HB.out.blk.cell (i:=2) rfl
 have f2:=HB.out.blk.frozen 2
 go_upto_region 7 with fail
 generalize hW2:wc.setCell ⟨w.heap.size,2,none⟩ (.int .i64 ((n:Int)%1000+17))=w2
 have HO0:Hid (U3 w.heap.size wc (.slice a k c) (code.take 4000)):=by unfold Hid;rw[<-HTL.out.2];exact HO.out
 have hnm:0<=(n:Int)%1000+17/\(n:Int)%1000+17<1000003:=by omega
 generalize hm0:(n:Int)%1000+17=m0 at *
 have HM0:=mh hm0
 have HB2:Hid (BT w2 w.heap.size #[.slice a k c,.int .i64 0,.int .i64 m0,.int .i64 0] 73):=by unfold Hid;rw[<-hW2];exact HB.out.set 2 _
 have HO2:Hid (U3 w.heap.size w2 (.slice a k c) (code.take 4000)):=by unfold Hid;rw[<-hW2];exact Q7 HO0.out HB.out (by decide) _ _
 have HX2:Hid (Nx w w2):=by unfold Hid;rw[<-hW2];exact Below.setCell HX.out (Nat.le_refl _) _
 generalize hct:code.take 4000=cT at *
 have HCT:=mh hct
 have HML:Hid (cT.length=k):=HTL.out.1
 clear hW2 hm0 m2 f2 HO HB HX HO0 HTL hct
 have HMI:=mh (mixTo_in cT hnm)
 go_wp2
 go_loopw [5] (λi wr=>∃j:Nat,j<=k/\i=.int .i64 j/\Hid (BT wr w.heap.size #[.slice a k c,.int .i64 0,.int .i64 (mixTo cT m0 j),.int .i64 0] 73)/\Hid (U3 w.heap.size wr (.slice a k c) cT)/\Hid (Nx w wr)) (λi _=>k-(intOf i).toNat)
 case atStart=>exact⟨0,Nat.zero_le _,rfl,HB2,HO2,HX2⟩
 clear HB2 HO2 HX2
 obtain⟨j,hj,rfl,HBJ,HOJ,HXJ⟩:=hrel
 have g0:=HBJ.out.blk.cell (i:=0) rfl
 by_cases hjl:j<k
 ·have hjl':(j:Int)<k:=by omega
  obtain⟨a9,c9,e9,_,hk9⟩:=HOJ.out.held
  rw[HML.out] at e9 hk9
  simp only[Value.slice.injEq] at e9
  obtain⟨ea,ek,ec⟩:=e9
  subst ea ec
  clear ek
  obtain⟨gb,go,rfl,_,_,hc9⟩:=hk9 (by omega)
  have cy:wr.cell? ⟨gb,go+j,none⟩=some (.int .u8 (Xa cT j)):=hc9 j hjl
  have hyb:=byteAt_in cT j
  have hmi:=HMI.out j
  have HSTP:Hid (mixTo cT m0 (j+1)=(mixTo cT m0 j*257+Xa cT j+1)%1000003):=rfl
  generalize Xa cT j=y at *
  generalize mixTo cT m0 j=mm at *
  clear hk9 hc9
  go_upto_region 10 with fail
  clear g0
  have HSS:Hid ((λq=>q.cell? ⟨w.heap.size,2,none⟩=some (.int .i64 mm)/\q.cell? ⟨w.heap.size,0,none⟩=some (.slice (some ⟨gb,go,none⟩) k c)/\q.cell? ⟨gb,go+j,none⟩=some (.int .u8 y)) wr.drew):=⟨show wr.drew.cell? _=_ from HBJ.out.blk.cell (i:=2) rfl,show wr.drew.cell? _=_ from HBJ.out.blk.cell (i:=0) rfl,show wr.drew.cell? _=_ from cy⟩
  have hmx:Tryz.prog.follows .mixedOrders=true:=by kernel_rfl
  have g2:wr.drew.cell? ⟨w.heap.size,2,none⟩=some (.int .i64 mm):=HSS.out.1
  have f2:wr.drew.frozen? ⟨w.heap.size,2,none⟩=false:=HBJ.out.blk.drew.frozen 2
  refine(wpIn_wide (n:=9)).1 ?_
  refine Q9 (c:=13) (S:=λq=>q.cell? ⟨w.heap.size,2,none⟩=some (.int .i64 mm)/\q.cell? ⟨w.heap.size,0,none⟩=some (.slice (some ⟨gb,go,none⟩) k c)/\q.cell? ⟨gb,go+j,none⟩=some (.int .u8 y)) hmx (by kernel_rfl) (λhw hcl=>?_)
  refine tq (i:=0) (v:=.pointer (some ⟨w.heap.size,2,none⟩)) (λhcl=>?_)
  refine tq (i:=1) (v:=.int .i64 mm) (λhcl=>?_)
  refine tk (i:=2) (v:=.int .i64 (mm*257)) hw hcl ⟨Or.inl ⟨by kernel_rfl,?y2⟩,λ_=>rfl⟩ HSS.out (λhcl=>?_)
  case y2=>
   rintro q ⟨c1,c2,c3⟩
   go_simp
   exact Go.IntWalk.i64_in _ ⟨by omega,by omega⟩
  refine tq (i:=3) (v:=.pointer (some ⟨w.heap.size,0,none⟩)) (λhcl=>?_)
  refine tq (i:=4) (v:=.slice (some ⟨gb,go,none⟩) k c) (λhcl=>?_)
  refine tq (i:=5) (v:=.int .i64 (j:Int)) (λhcl=>?_)
  refine tq (i:=6) (v:=.pointer (some ⟨gb,go+j,none⟩)) (λhcl=>?_)
  refine tq (i:=7) (v:=.int .u8 y) (λhcl=>?_)
  refine tk (i:=8) (v:=.int .i64 y) hw hcl ⟨Or.inl ⟨by kernel_rfl,?y8⟩,λ_=>rfl⟩ HSS.out (λhcl=>?_)
  case y8=>
   rintro q ⟨c1,c2,c3⟩
   go_simp
   exact Go.IntWalk.i64_in _ ⟨by omega,by omega⟩
  refine tk (i:=9) (v:=.int .i64 (mm*257+y)) hw hcl ⟨Or.inl ⟨by kernel_rfl,?y9⟩,λ_=>rfl⟩ HSS.out (λhcl=>?_)
  case y9=>
   rintro q ⟨c1,c2,c3⟩
   go_simp
   exact Go.IntWalk.i64_in _ ⟨by omega,by omega⟩
  refine tk (i:=10) (v:=.int .i64 (mm*257+y+1)) hw hcl ⟨Or.inl ⟨by kernel_rfl,?y10⟩,λ_=>rfl⟩ HSS.out (λhcl=>?_)
  case y10=>
   rintro q ⟨c1,c2,c3⟩
   go_simp
   exact Go.IntWalk.i64_in _ ⟨by omega,by omega⟩
  refine tk (i:=11) (v:=.int .i64 ((mm*257+y+1)%1000003)) hw hcl ⟨Or.inl ⟨by kernel_rfl,?y11⟩,λ_=>rfl⟩ HSS.out (λhcl=>?_)
  case y11=>
   rintro q ⟨c1,c2,c3⟩
   go_simp
   exact Int.tmod_eq_emod_of_nonneg (by omega)
  refine tq (i:=12) (v:=.pointer (some ⟨w.heap.size,2,none⟩)) (λhcl=>?_)
  refine Q5 (i:=13) (by kernel_rfl) (wpOpIn_step rfl (λK hK=>?_))
  go_simp
  refine hK _ _ ⟨Or.inl (by decide),?_⟩
  clear hK K
  refine Qj (by kernel_rfl) ?_ _
  clear hw hcl g2 f2 HSS
  have HB3:Hid (BT (wr.setCell ⟨w.heap.size,2,none⟩ (.int .i64 ((mm*257+y+1)%1000003))) w.heap.size #[.slice (some ⟨gb,go,none⟩) k c,.int .i64 0,.int .i64 (mixTo cT m0 (j+1)),.int .i64 0] 73):=by unfold Hid;rw[HSTP.out];exact HBJ.out.set 2 _
  have HO3:Hid (U3 w.heap.size (wr.setCell ⟨w.heap.size,2,none⟩ (.int .i64 ((mm*257+y+1)%1000003))) (.slice (some ⟨gb,go,none⟩) k c) cT):=Q7 HOJ.out HBJ.out (by decide) _ _
  have HX3:Hid (Nx w (wr.setCell ⟨w.heap.size,2,none⟩ (.int .i64 ((mm*257+y+1)%1000003)))):=Below.setCell HXJ.out (Nat.le_refl _) _
  go_wp2
  go_roundw
  case rel=>exact⟨j+1,by omega,by go_num,HB3,HO3,Nx.drew HX3.out⟩
  case measure=>simp[intOf];omega
 have hjk:j=k:=by omega
 subst hjk
 have HSO:Hid (srcOf code=⟨cT,0,mixTo cT m0 j,if 8<1+(j:Int)/40 then 8 else 1+(j:Int)/40⟩):=by unfold Hid srcOf;rw[HCT.out,HN.out,HM0.out,HML.out]
 have m3:=HBJ.out.blk.cell (i:=3) rfl
 have f3:=HBJ.out.blk.frozen 3
 generalize mixTo cT m0 j=mm at *
 go_upto_region 12 with fail
 generalize hW3:wr.setCell ⟨w.heap.size,3,none⟩ (.int .i64 (1+(j:Int)/40))=w3
 have HB3:Hid (BT w3 w.heap.size #[.slice a j c,.int .i64 0,.int .i64 mm,.int .i64 (1+(j:Int)/40)] 73):=by unfold Hid;rw[<-hW3];exact HBJ.out.set 3 _
 have HO3:Hid (U3 w.heap.size w3 (.slice a j c) cT):=by unfold Hid;rw[<-hW3];exact Q7 HOJ.out HBJ.out (by decide) _ _
 have HX3:Hid (Nx w w3):=by unfold Hid;rw[<-hW3];exact Below.setCell HXJ.out (Nat.le_refl _) _
 clear hW3 m3 f3 g0
 have m3:=HB3.out.blk.cell (i:=3) rfl
 have f3:=HB3.out.blk.frozen 3
 by_cases h8:8<1+(j:Int)/40
 ·rw[if_pos h8] at HSO
  go_wp2
  go_ret
  rw[HSO.out]
  exact⟨⟨_,rfl,⟨_,HB3.out.set 3 (.int .i64 8),Q7 HO3.out HB3.out (by decide) _ _⟩,Nat.le_refl _⟩,Below.setCell HX3.out (Nat.le_refl _) _⟩
 ·rw[if_neg h8] at HSO
  go_wp2
  go_ret
  rw[HSO.out]
  exact⟨⟨_,rfl,⟨_,HB3.out,HO3.out⟩,Nat.le_refl _⟩,HX3.out⟩
theorem HBy.next {B:Nat}{w w':World}{v:Value}{bs:List UInt8}(h:HBy B w v bs)(k:Nx w w'):HBy B w' v bs:=Jz.mono h (Nat.le_refl _) k.size λb off hb hs i hi hc=>Q3 k hc
theorem FR.spoil {D b C:Nat}{w0 w w':World}{S S':Src}{bl:List (Nat×Array Value×Nat)}(h:FR D b w0 w S bl)(hs:Jg D w' b S')(hc:Chg (λx=>x=b\/C<=x) w w')(hC:w0.heap.size<=C)(hb:∀p∈bl,p.1<C):FR D b w0 w' S' bl:=by
 obtain⟨v,hv,_⟩:=h.src
 refine⟨h.chg.young hc (λx hx hl=>?_),hs,λp hp=>⟨(h.bx p hp).1.chg hc (λe=>?_),(h.bx p hp).2⟩,h.ty,h.nd⟩
 ·rcases hx with e|e
  ·exact e
  ·omega
 ·rcases e with e|e
  ·exact(h.bx p hp).1.ne hv (h.ty p hp).1 e
  ·have:=hb p hp
   omega
theorem l1DrawNet_any (D b:Nat)(S:Src)(w:World)(hS:Jg D w b S)(hok:SOk S) :
  Calls Tryz.prog 11 #[.pointer (some ⟨b,0,none⟩)] w λe w'=>(∃v0 v1 v2 v3,e=.returned (.agg #[v0,v1,v2,v3,.int .i64 (dnNet S).uturn])/\∃vn vw vr,ONt (w.heap.size+1) w' v0 v1 v2 v3 (dnNet S) vn vw vr)/\Chg (Sx1 b) w w':=by
 have HOK:Hid (SOk S):=hok
 have HOK1:Hid (SOk (ns S 40)):=Qm hok 40
 have HS0:Hid (Jg D w b S):=hS
 clear hS hok
 go_enter Tryz.func11,Tryz.ntmps11
 go_upto_region 1 with fail
 generalize hWA:w.alloc (.cells #[.slice none 0 0,.slice none 0 0,.slice none 0 0,.slice none 0 0,.int .i64 0] 28)=wA
 have HA:Hid (FR D b w wA S [(w.heap.size,#[.slice none 0 0,.slice none 0 0,.slice none 0 0,.slice none 0 0,.int .i64 0],28)]):=by
  unfold Hid
  rw[<-hWA]
  have k0:FR D b w w S []:=⟨Chg.nx (Nx.refl _),HS0.out,λp hp=>absurd hp (by simp),λp hp=>absurd hp (by simp),List.nodup_nil⟩
  exact k0.alloc #[.slice none 0 0,.slice none 0 0,.slice none 0 0,.slice none 0 0,.int .i64 0] 28 (by decide)
 have HZ:Hid (w.heap.size+1=wA.heap.size):=by unfold Hid;rw[<-hWA,Q1]
 clear hWA
 go_wp2_with fail
 refine(Qe D b S 40 wA HA.out.src HOK.out (by omega)).mono ?_
 rintro e w1 ⟨rfl,hs1,hc1⟩
 have H1:=mh (HA.out.drawn hs1 hc1)
 have HZ1:Hid (w.heap.size+1<=w1.heap.size):=by have:=hc1.size;have:=HZ.out;unfold Hid;omega
 have HLD:Hid (dnNet S=if nv S 40<8 then (spAll (Y7 (ns S 40)) (riS (ns S 40))).1 else if nv S 40<10 then liNet (ns S 40) else Y7 (ns S 40)):=rfl
 generalize nv S 40=kk at *
 clear hs1 hc1 HA HZ
 by_cases h8:kk<8
 ·have HLN:Hid (dnNet S=(spAll (Y7 (ns S 40)) (riS (ns S 40))).1):=by unfold Hid;rw[HLD.out,if_pos h8]
  clear HLD
  go_wp2_with fail
  refine(l2DrawRich_any D b (ns S 40) w1 H1.out.src HOK1.out).mono ?_
  rintro e w2 ⟨v0,v1,v2,v3,vn,vw,vr,rfl,hO2,hs2,hc2⟩
  have H2:=mh (H1.out.drawn hs2 hc2)
  have HSI:=mh (ri_in HOK1.out).1
  have HO2:=mh hO2
  have HC2:Hid (w1.heap.size+1<=w2.heap.size):=by
   obtain⟨g,c,cs,-,hg,-,hb,-⟩:=hO2.nodes.open (show 0<(Y7 (ns S 40)).nodes.length from HSI.out.n1)
   have:=hb.lt
   unfold Hid
   omega
  clear hs2 hc2 hO2 H1
  go_wp2_with fail
  refine(l1Spoil_any D b (w1.heap.size+1) v0 v1 v2 v3 _ vn vw vr (riS (ns S 40)) w2 H2.out.src HO2.out HC2.out HSI.out).mono ?_
  rintro e w3 ⟨v0,v1,v2,v3,vn,vw,vr,rfl,hO3,hs3,hc3⟩
  have H3:=mh (H2.out.spoil hs3 hc3 (by have:=HZ1.out;omega) (λp hp=>by have e:p=(w.heap.size,#[.slice none 0 0,.slice none 0 0,.slice none 0 0,.slice none 0 0,.int .i64 0],28):=(by simpa using hp);rw[e];have:=HZ1.out;show w.heap.size<_;omega))
  have O3:=mh (hO3.base (show w.heap.size+1<=w1.heap.size+1 by have:=HZ1.out;omega))
  clear hs3 hc3 hO3 HSI HC2 HO2 H2
  obtain⟨a0,q0,e0⟩:=Q2 O3.out.nodes
  obtain⟨a1,q1,e1⟩:=Q2 O3.out.ways
  obtain⟨a2,q2,e2⟩:=Q2 O3.out.rels
  obtain⟨a3,q3,e3⟩:=Q2 O3.out.turns
  generalize hN0:(spAll (Y7 (ns S 40)) (riS (ns S 40))).1=NN at *
  have HNN:=mh hN0
  clear hN0
  generalize NN.nodes.length=l0 at e0
  generalize NN.ways.length=l1 at e1
  generalize NN.rels.length=l2 at e2
  generalize NN.turns.length=l3 at e3
  generalize huu:NN.uturn=uu
  have HU:Hid (NN.uturn=uu):=huu
  clear huu
  subst e0 e1 e2 e3
  have BR:BT w3 w.heap.size #[.slice none 0 0,.slice none 0 0,.slice none 0 0,.slice none 0 0,.int .i64 0] 28:=H3.out.at 0 rfl
  have x0:=BR.blk.cell (i:=0) rfl
  have fz0:=BR.blk.frozen 0
  have x1:=BR.blk.cell (i:=1) rfl
  have fz1:=BR.blk.frozen 1
  have x2:=BR.blk.cell (i:=2) rfl
  have fz2:=BR.blk.frozen 2
  have x3:=BR.blk.cell (i:=3) rfl
  have fz3:=BR.blk.frozen 3
  have x4:=BR.blk.cell (i:=4) rfl
  have fz4:=BR.blk.frozen 4
  have BS:=set5 (a0:=.slice a0 l0 q0) (a1:=.slice a1 l1 q1) (a2:=.slice a2 l2 q2) (a3:=.slice a3 l3 q3) (a4:=.int .i64 uu) BR
  have P0:=mh (BS.blk.cell (i:=0) rfl)
  have P1:=mh (BS.blk.cell (i:=1) rfl)
  have P2:=mh (BS.blk.cell (i:=2) rfl)
  have P3:=mh (BS.blk.cell (i:=3) rfl)
  have P4:Hid (_=some (Value.int .i64 uu)):=BS.blk.cell (i:=4) rfl
  have HCF:Hid (Chg (λx=>x=w.heap.size) w3 (((((w3.setCell ⟨w.heap.size,0,none⟩ (.slice a0 l0 q0)).setCell ⟨w.heap.size,1,none⟩ (.slice a1 l1 q1)).setCell ⟨w.heap.size,2,none⟩ (.slice a2 l2 q2)).setCell ⟨w.heap.size,3,none⟩ (.slice a3 l3 q3)).setCell ⟨w.heap.size,4,none⟩ (.int .i64 uu))):=chg5
  have HBS:=mh BS
  clear BS BR
  go_wp2
  generalize hWF:(((((w3.setCell ⟨w.heap.size,0,none⟩ (.slice a0 l0 q0)).setCell ⟨w.heap.size,1,none⟩ (.slice a1 l1 q1)).setCell ⟨w.heap.size,2,none⟩ (.slice a2 l2 q2)).setCell ⟨w.heap.size,3,none⟩ (.slice a3 l3 q3)).setCell ⟨w.heap.size,4,none⟩ (.int .i64 uu))=wF at P0 P1 P2 P3 P4 HBS HCF ⊢
  have p0_:=P0.out
  have p1_:=P1.out
  have p2_:=P2.out
  have p3_:=P3.out
  have p4_:=P4.out
  refine bodyPost_ret (v:=.agg #[.slice a0 l0 q0,.slice a1 l1 q1,.slice a2 l2 q2,.slice a3 l3 q3,.int .i64 uu]) (by simp[results,Tryz.results11,go_sem,p0_,p1_,p2_,p3_,p4_]) rfl ?_
  have hF:=H3.out.turn 0 rfl HCF.out HBS.out
  have hO:=O3.out.turnBox (show BT w3 w.heap.size #[.slice none 0 0,.slice none 0 0,.slice none 0 0,.slice none 0 0,.int .i64 0] 28 from H3.out.at 0 rfl) (by decide) (λe=>absurd e (by decide)) HCF.out
  rw[HLN.out,<-HU.out]
  exact⟨⟨_,_,_,_,rfl,_,_,_,hO⟩,hF.chg⟩
 ·by_cases h10:kk<10
  ·have HLN:Hid (dnNet S=liNet (ns S 40)):=by unfold Hid;rw[HLD.out,if_neg h8,if_pos h10]
   clear HLD
   go_wp2_with fail
   refine(l1Limit_any D b (ns S 40) w1 H1.out.src HOK1.out).mono ?_
   rintro e w3 ⟨⟨v0,v1,v2,v3,rfl,vn,vw,vr,hO3⟩,hs3,hc3⟩
   have H3:=mh (H1.out.drawn hs3 hc3)
   have O3:=mh (hO3.base (show w.heap.size+1<=w1.heap.size+1 by have:=HZ1.out;omega))
   clear hs3 hc3 hO3 H1
   obtain⟨a0,q0,e0⟩:=Q2 O3.out.nodes
   obtain⟨a1,q1,e1⟩:=Q2 O3.out.ways
   obtain⟨a2,q2,e2⟩:=Q2 O3.out.rels
   obtain⟨a3,q3,e3⟩:=Q2 O3.out.turns
   generalize hN0:liNet (ns S 40)=NN at *
   have HNN:=mh hN0
   clear hN0
   generalize NN.nodes.length=l0 at e0
   generalize NN.ways.length=l1 at e1
   generalize NN.rels.length=l2 at e2
   generalize NN.turns.length=l3 at e3
   generalize huu:NN.uturn=uu
   have HU:Hid (NN.uturn=uu):=huu
   clear huu
   subst e0 e1 e2 e3
   have BR:BT w3 w.heap.size #[.slice none 0 0,.slice none 0 0,.slice none 0 0,.slice none 0 0,.int .i64 0] 28:=H3.out.at 0 rfl
   have x0:=BR.blk.cell (i:=0) rfl
   have fz0:=BR.blk.frozen 0
   have x1:=BR.blk.cell (i:=1) rfl
   have fz1:=BR.blk.frozen 1
   have x2:=BR.blk.cell (i:=2) rfl
   have fz2:=BR.blk.frozen 2
   have x3:=BR.blk.cell (i:=3) rfl
   have fz3:=BR.blk.frozen 3
   have x4:=BR.blk.cell (i:=4) rfl
   have fz4:=BR.blk.frozen 4
   have BS:=set5 (a0:=.slice a0 l0 q0) (a1:=.slice a1 l1 q1) (a2:=.slice a2 l2 q2) (a3:=.slice a3 l3 q3) (a4:=.int .i64 uu) BR
   have P0:=mh (BS.blk.cell (i:=0) rfl)
   have P1:=mh (BS.blk.cell (i:=1) rfl)
   have P2:=mh (BS.blk.cell (i:=2) rfl)
   have P3:=mh (BS.blk.cell (i:=3) rfl)
   have P4:Hid (_=some (Value.int .i64 uu)):=BS.blk.cell (i:=4) rfl
   have HCF:Hid (Chg (λx=>x=w.heap.size) w3 (((((w3.setCell ⟨w.heap.size,0,none⟩ (.slice a0 l0 q0)).setCell ⟨w.heap.size,1,none⟩ (.slice a1 l1 q1)).setCell ⟨w.heap.size,2,none⟩ (.slice a2 l2 q2)).setCell ⟨w.heap.size,3,none⟩ (.slice a3 l3 q3)).setCell ⟨w.heap.size,4,none⟩ (.int .i64 uu))):=chg5
   have HBS:=mh BS
   clear BS BR
   go_wp2
   generalize hWF:(((((w3.setCell ⟨w.heap.size,0,none⟩ (.slice a0 l0 q0)).setCell ⟨w.heap.size,1,none⟩ (.slice a1 l1 q1)).setCell ⟨w.heap.size,2,none⟩ (.slice a2 l2 q2)).setCell ⟨w.heap.size,3,none⟩ (.slice a3 l3 q3)).setCell ⟨w.heap.size,4,none⟩ (.int .i64 uu))=wF at P0 P1 P2 P3 P4 HBS HCF ⊢
   have p0_:=P0.out
   have p1_:=P1.out
   have p2_:=P2.out
   have p3_:=P3.out
   have p4_:=P4.out
   refine bodyPost_ret (v:=.agg #[.slice a0 l0 q0,.slice a1 l1 q1,.slice a2 l2 q2,.slice a3 l3 q3,.int .i64 uu]) (by simp[results,Tryz.results11,go_sem,p0_,p1_,p2_,p3_,p4_]) rfl ?_
   have hF:=H3.out.turn 0 rfl HCF.out HBS.out
   have hO:=O3.out.turnBox (show BT w3 w.heap.size #[.slice none 0 0,.slice none 0 0,.slice none 0 0,.slice none 0 0,.int .i64 0] 28 from H3.out.at 0 rfl) (by decide) (λe=>absurd e (by decide)) HCF.out
   rw[HLN.out,<-HU.out]
   exact⟨⟨_,_,_,_,rfl,_,_,_,hO⟩,hF.chg⟩
  ·have HLN:Hid (dnNet S=Y7 (ns S 40)):=by unfold Hid;rw[HLD.out,if_neg h8,if_neg h10]
   clear HLD
   go_wp2_with fail
   refine(l2DrawRich_any D b (ns S 40) w1 H1.out.src HOK1.out).mono ?_
   rintro e w3 ⟨v0,v1,v2,v3,vn,vw,vr,rfl,hO3,hs3,hc3⟩
   have H3:=mh (H1.out.drawn hs3 hc3)
   have O3:=mh (hO3.base (show w.heap.size+1<=w1.heap.size+1 by have:=HZ1.out;omega))
   clear hs3 hc3 hO3 H1
   obtain⟨a0,q0,e0⟩:=Q2 O3.out.nodes
   obtain⟨a1,q1,e1⟩:=Q2 O3.out.ways
   obtain⟨a2,q2,e2⟩:=Q2 O3.out.rels
   obtain⟨a3,q3,e3⟩:=Q2 O3.out.turns
   generalize hN0:Y7 (ns S 40)=NN at *
   have HNN:=mh hN0
   clear hN0
   generalize NN.nodes.length=l0 at e0
   generalize NN.ways.length=l1 at e1
   generalize NN.rels.length=l2 at e2
   generalize NN.turns.length=l3 at e3
   generalize huu:NN.uturn=uu
   have HU:Hid (NN.uturn=uu):=huu
   clear huu
   subst e0 e1 e2 e3
   have BR:BT w3 w.heap.size #[.slice none 0 0,.slice none 0 0,.slice none 0 0,.slice none 0 0,.int .i64 0] 28:=H3.out.at 0 rfl
   have x0:=BR.blk.cell (i:=0) rfl
   have fz0:=BR.blk.frozen 0
   have x1:=BR.blk.cell (i:=1) rfl
   have fz1:=BR.blk.frozen 1
   have x2:=BR.blk.cell (i:=2) rfl
   have fz2:=BR.blk.frozen 2
   have x3:=BR.blk.cell (i:=3) rfl
   have fz3:=BR.blk.frozen 3
   have x4:=BR.blk.cell (i:=4) rfl
   have fz4:=BR.blk.frozen 4
   have BS:=set5 (a0:=.slice a0 l0 q0) (a1:=.slice a1 l1 q1) (a2:=.slice a2 l2 q2) (a3:=.slice a3 l3 q3) (a4:=.int .i64 uu) BR
   have P0:=mh (BS.blk.cell (i:=0) rfl)
   have P1:=mh (BS.blk.cell (i:=1) rfl)
   have P2:=mh (BS.blk.cell (i:=2) rfl)
   have P3:=mh (BS.blk.cell (i:=3) rfl)
   have P4:Hid (_=some (Value.int .i64 uu)):=BS.blk.cell (i:=4) rfl
   have HCF:Hid (Chg (λx=>x=w.heap.size) w3 (((((w3.setCell ⟨w.heap.size,0,none⟩ (.slice a0 l0 q0)).setCell ⟨w.heap.size,1,none⟩ (.slice a1 l1 q1)).setCell ⟨w.heap.size,2,none⟩ (.slice a2 l2 q2)).setCell ⟨w.heap.size,3,none⟩ (.slice a3 l3 q3)).setCell ⟨w.heap.size,4,none⟩ (.int .i64 uu))):=chg5
   have HBS:=mh BS
   clear BS BR
   go_wp2
   generalize hWF:(((((w3.setCell ⟨w.heap.size,0,none⟩ (.slice a0 l0 q0)).setCell ⟨w.heap.size,1,none⟩ (.slice a1 l1 q1)).setCell ⟨w.heap.size,2,none⟩ (.slice a2 l2 q2)).setCell ⟨w.heap.size,3,none⟩ (.slice a3 l3 q3)).setCell ⟨w.heap.size,4,none⟩ (.int .i64 uu))=wF at P0 P1 P2 P3 P4 HBS HCF ⊢
   have p0_:=P0.out
   have p1_:=P1.out
   have p2_:=P2.out
   have p3_:=P3.out
   have p4_:=P4.out
   refine bodyPost_ret (v:=.agg #[.slice a0 l0 q0,.slice a1 l1 q1,.slice a2 l2 q2,.slice a3 l3 q3,.int .i64 uu]) (by simp[results,Tryz.results11,go_sem,p0_,p1_,p2_,p3_,p4_]) rfl ?_
   have hF:=H3.out.turn 0 rfl HCF.out HBS.out
   have hO:=O3.out.turnBox (show BT w3 w.heap.size #[.slice none 0 0,.slice none 0 0,.slice none 0 0,.slice none 0 0,.int .i64 0] 28 from H3.out.at 0 rfl) (by decide) (λe=>absurd e (by decide)) HCF.out
   rw[HLN.out,<-HU.out]
   exact⟨⟨_,_,_,_,rfl,_,_,_,hO⟩,hF.chg⟩
theorem drawResolve_any (B:Nat)(v:Value)(code:List UInt8)(w:World)(h:HBy B w v code)(hl:code.length<=1048576) :
  Calls Tryz.prog 4 #[v] w λe w'=>(∃v0 v1 v2 v3,e=.returned (.agg #[v0,v1,v2,v3,.int .i64 (dnNet (srcOf code)).uturn])/\∃vn vw vr,ONt (w.heap.size+1) w' v0 v1 v2 v3 (dnNet (srcOf code)) vn vw vr)/\Nx w w':=by
 have HB:=mh h
 have HL:=mh hl
 obtain⟨ca,cc,rfl,hmx1,hk⟩:=h
 clear hk hmx1 hl
 go_enter Tryz.func4,Tryz.ntmps4
 go_upto_region 1 with fail
 have HX0:Hid (Nx w (w.alloc (.cells #[.slice none 0 0,.slice none 0 0,.slice none 0 0,.slice none 0 0,.int .i64 0] 28))):=Qc _ _
 have HB0:Hid (BT (w.alloc (.cells #[.slice none 0 0,.slice none 0 0,.slice none 0 0,.slice none 0 0,.int .i64 0] 28)) w.heap.size #[.slice none 0 0,.slice none 0 0,.slice none 0 0,.slice none 0 0,.int .i64 0] 28):=BT.new _ _ _ _ rfl
 have HZ:Hid ((w.alloc (.cells #[.slice none 0 0,.slice none 0 0,.slice none 0 0,.slice none 0 0,.int .i64 0] 28)).heap.size=w.heap.size+1):=by unfold Hid;rw[Q1]
 generalize w.alloc (.cells #[.slice none 0 0,.slice none 0 0,.slice none 0 0,.slice none 0 0,.int .i64 0] 28)=wA at *
 have HBA:=mh (HB.out.next HX0.out)
 clear HB
 go_wp2_with fail
 refine(l1Source_new B _ code wA HBA.out HL.out).mono ?_
 rintro e w1 ⟨⟨b,rfl,hs1,hb1⟩,hx1⟩
 have HS1:=mh hs1
 have HX1:Hid (Nx w w1):=HX0.out.trans hx1
 have HB1:=mh (HB0.out.next hx1)
 have HBL:=mh hb1
 have HZ1:=mh hx1.size
 clear hs1 hx1 hb1 HX0 HB0 HBA
 go_wp2_with fail
 refine(l1DrawNet_any _ b (srcOf code) w1 HS1.out (srcOf_ok code)).mono ?_
 rintro e w3 ⟨⟨v0,v1,v2,v3,rfl,vn,vw,vr,hO3⟩,hc3⟩
 have O3:=mh (hO3.base (show w.heap.size+1<=w1.heap.size+1 by have:=HX1.out.size;omega))
 have HX3:Hid (Nx w w3):=Below.trans HX1.out (hc3.below HX1.out.size (λx hx=>by have e:x=b:=hx;have:=HBL.out;have:=HZ.out;omega))
 have HB3:=mh (HB1.out.chg hc3 (λe=>by have e':w.heap.size=b:=e;have:=HBL.out;have:=HZ.out;omega))
 clear hO3 hc3 HS1 HX1 HB1 HBL HZ1 HZ
 obtain⟨a0,q0,e0⟩:=Q2 O3.out.nodes
 obtain⟨a1,q1,e1⟩:=Q2 O3.out.ways
 obtain⟨a2,q2,e2⟩:=Q2 O3.out.rels
 obtain⟨a3,q3,e3⟩:=Q2 O3.out.turns
 generalize hN0:dnNet (srcOf code)=NN at *
 have HNN:=mh hN0
 clear hN0
 generalize NN.nodes.length=l0 at e0
 generalize NN.ways.length=l1 at e1
 generalize NN.rels.length=l2 at e2
 generalize NN.turns.length=l3 at e3
 generalize huu:NN.uturn=uu
 have HU:Hid (NN.uturn=uu):=huu
 clear huu
 subst e0 e1 e2 e3
 have BR:=HB3.out
 have x0:=BR.blk.cell (i:=0) rfl
 have fz0:=BR.blk.frozen 0
 have x1:=BR.blk.cell (i:=1) rfl
 have fz1:=BR.blk.frozen 1
 have x2:=BR.blk.cell (i:=2) rfl
 have fz2:=BR.blk.frozen 2
 have x3:=BR.blk.cell (i:=3) rfl
 have fz3:=BR.blk.frozen 3
 have x4:=BR.blk.cell (i:=4) rfl
 have fz4:=BR.blk.frozen 4
 have BS:=set5 (a0:=.slice a0 l0 q0) (a1:=.slice a1 l1 q1) (a2:=.slice a2 l2 q2) (a3:=.slice a3 l3 q3) (a4:=.int .i64 uu) BR
 have P0:=mh (BS.blk.cell (i:=0) rfl)
 have P1:=mh (BS.blk.cell (i:=1) rfl)
 have P2:=mh (BS.blk.cell (i:=2) rfl)
 have P3:=mh (BS.blk.cell (i:=3) rfl)
 have P4:Hid (_=some (Value.int .i64 uu)):=BS.blk.cell (i:=4) rfl
 have HCF:Hid (Chg (λx=>x=w.heap.size) w3 (((((w3.setCell ⟨w.heap.size,0,none⟩ (.slice a0 l0 q0)).setCell ⟨w.heap.size,1,none⟩ (.slice a1 l1 q1)).setCell ⟨w.heap.size,2,none⟩ (.slice a2 l2 q2)).setCell ⟨w.heap.size,3,none⟩ (.slice a3 l3 q3)).setCell ⟨w.heap.size,4,none⟩ (.int .i64 uu))):=chg5
 clear BS BR
 go_wp2
 generalize hWF:(((((w3.setCell ⟨w.heap.size,0,none⟩ (.slice a0 l0 q0)).setCell ⟨w.heap.size,1,none⟩ (.slice a1 l1 q1)).setCell ⟨w.heap.size,2,none⟩ (.slice a2 l2 q2)).setCell ⟨w.heap.size,3,none⟩ (.slice a3 l3 q3)).setCell ⟨w.heap.size,4,none⟩ (.int .i64 uu))=wF at P0 P1 P2 P3 P4 HCF ⊢
 have p0_:=P0.out
 have p1_:=P1.out
 have p2_:=P2.out
 have p3_:=P3.out
 have p4_:=P4.out
 refine bodyPost_ret (v:=.agg #[.slice a0 l0 q0,.slice a1 l1 q1,.slice a2 l2 q2,.slice a3 l3 q3,.int .i64 uu]) (by simp[results,Tryz.results4,go_sem,p0_,p1_,p2_,p3_,p4_]) rfl ?_
 have hO:=O3.out.turnBox HB3.out (by decide) (λe=>absurd e (by decide)) HCF.out
 rw[HNN.out,<-HU.out]
 exact⟨⟨_,_,_,_,rfl,_,_,_,hO⟩,Below.trans HX3.out (HCF.out.below HX3.out.size (λx hx=>by have e:x=w.heap.size:=hx;omega))⟩
end Go.Proofs.YthhbdfiopjclcaaGreatDoor
