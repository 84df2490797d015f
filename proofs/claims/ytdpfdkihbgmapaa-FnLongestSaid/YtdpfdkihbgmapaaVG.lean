import Derived.Test.YtdpfdkihbgmapaaVD
namespace Go.Proofs.Ytdpfdkihbgmapaa
open Go.RowKit Go.Sort
set_option linter.unusedVariables false
set_option maxRecDepth 1000000
set_option maxHeartbeats 16000000
def dlV (la:List Int)(S:Src):Int:=if la.length<2 then nv S 4 else if nv S 8=0 then nv (ns S 8) 4 else iat la (1+nv (ns S 8) ((la.length:Int)-1)).toNat
def dlS (la:List Int)(S:Src):Src:=if la.length<2 then ns S 4 else if nv S 8=0 then ns (ns S 8) 4 else ns (ns S 8) ((la.length:Int)-1)
theorem dlS_ok {la:List Int}{S:Src}(h:SOk S):SOk (dlS la S):=by
 unfold dlS
 split
 ·exact ns_ok h 4
 ·split
  ·exact ns_ok (ns_ok h 8) 4
  ·exact ns_ok (ns_ok h 8) _
theorem HInts.chg {B b:Nat}{w w':World}{v:Value}{zs:List Int}(h:HInts B w v zs)(hb:b<B)(hc:Chg (Sx1 b) w w'):HInts B w' v zs:=h.keep ⟨hc.size,λx hx hs o=>by
 have hn:¬Sx1 b x:=λe=>by have e':x=b:=e;omega
 unfold World.cell?
 rw[hc.block x hs hn]⟩
theorem HBools.chg {B b:Nat}{w w':World}{v:Value}{zs:List Bool}(h:HBools B w v zs)(hb:b<B)(hc:Chg (Sx1 b) w w'):HBools B w' v zs:=h.keep ⟨hc.size,λx hx hs o=>by
 have hn:¬Sx1 b x:=λe=>by have e':x=b:=e;omega
 unfold World.cell?
 rw[hc.block x hs hn]⟩
theorem HA.chg {B b:Nat}{w w':World}{v0 v1 v2 v3 v4:Value}{A:Au}(h:HA B w v0 v1 v2 v3 v4 A)(hb:b<B)(hc:Chg (Sx1 b) w w'):HA B w' v0 v1 v2 v3 v4 A:=⟨h.h0.chg hb hc,h.h1.chg hb hc,h.h2.chg hb hc,h.h3.chg hb hc,h.h4.chg hb hc⟩
theorem l3DrawLetter_any (B D b:Nat)(a0 a1 a2 a3 a4:Option Addr)(n0 c0 l c1 n2 c2 n3 c3 n4 c4:Nat)(la:List Int)(S:Src)(w:World)(h1:HInts B w (.slice a1 l c1) la)(hB:b<B)(hl:l<=3000)(hS:HSrc D w b S)(hok:SOk S) :
  Calls Try.prog 11 #[.agg #[.slice a0 n0 c0,.slice a1 l c1,.slice a2 n2 c2,.slice a3 n3 c3,.slice a4 n4 c4],.pointer (some ⟨b,0,none⟩)] w λe w'=>e=.returned (.int .i64 (dlV la S))/\HSrc D w' b (dlS la S)/\Chg (Sx1 b) w w':=by
 have HI:Hid (HInts B w (.slice a1 l c1) la):=h1
 have HLL:Hid (la.length=l):=by
  obtain⟨a9,c9,e9,_,_⟩:=h1
  simp only[Value.slice.injEq] at e9
  exact e9.2.1.symm
 have HOK:Hid (SOk S):=hok
 have HOK1:Hid (SOk (ns S 8)):=ns_ok hok 8
 have HS0:Hid (HSrc D w b S):=hS
 have hmx:Try.prog.follows .mixedOrders=true:=by kernel_rfl
 have HV0:Hid (dlV la S=if l<2 then nv S 4 else if nv S 8=0 then nv (ns S 8) 4 else iat la (1+nv (ns S 8) ((l:Int)-1)).toNat):=by unfold Hid dlV;rw[HLL.out]
 have HS9:Hid (dlS la S=if l<2 then ns S 4 else if nv S 8=0 then ns (ns S 8) 4 else ns (ns S 8) ((l:Int)-1)):=by unfold Hid dlS;rw[HLL.out]
 have HB0:=mkHid' (BT.new w #[.slice a0 n0 c0,.slice a1 l c1,.slice a2 n2 c2,.slice a3 n3 c3,.slice a4 n4 c4] 26 _ rfl)
 clear h1 hS hok
 go_enter Try.func11,Try.ntmps11
 go_upto_region 1 with fail
 generalize hWA:w.alloc (.cells #[.slice a0 n0 c0,.slice a1 l c1,.slice a2 n2 c2,.slice a3 n3 c3,.slice a4 n4 c4] 26)=wA
 have HBA:Hid (BT wA w.heap.size #[.slice a0 n0 c0,.slice a1 l c1,.slice a2 n2 c2,.slice a3 n3 c3,.slice a4 n4 c4] 26):=by unfold Hid;rw[<-hWA];exact HB0.out
 have HSA:Hid (HSrc D wA b S):=by unfold Hid;rw[<-hWA];exact HS0.out.next (box1 _ _)
 have HCA:Hid (Chg (Sx1 b) w wA):=by unfold Hid;rw[<-hWA];exact Chg.nx (box1 _ _)
 clear hWA HB0 HS0
 have y1:wA.cell? ⟨w.heap.size,1,none⟩=some (.slice a1 l c1):=HBA.out.blk.cell (i:=1) rfl
 by_cases h2:l<2
 ·rw[if_pos h2] at HV0 HS9
  have h2':(l:Int)<2:=by omega
  go_wp2_with fail
  refine(l1Next_any D b S 4 wA HSA.out HOK.out (by omega)).mono ?_
  rintro e w1 ⟨rfl,hs1,hc1⟩
  have HS1:Hid (HSrc D w1 b (ns S 4)):=hs1
  have HC1:Hid (Chg (Sx1 b) w w1):=HCA.out.trans hc1
  clear hs1 hc1 y1
  generalize nv S 4=d4 at *
  go_wp2
  go_ret
  exact⟨ret_int HV0.out.symm,by rw[HS9.out];exact HS1.out,HC1.out⟩
 rw[if_neg h2] at HV0 HS9
 have h2':¬(l:Int)<2:=by omega
 have h2d:decide ((l:Int)<2)=false:=by simp;omega
 go_wp2_with fail
 refine(l1Next_any D b S 8 wA HSA.out HOK.out (by omega)).mono ?_
 rintro e w2 ⟨rfl,hs1,hc1⟩
 have HB2:Hid (BT w2 w.heap.size #[.slice a0 n0 c0,.slice a1 l c1,.slice a2 n2 c2,.slice a3 n3 c3,.slice a4 n4 c4] 26):=HBA.out.src HSA.out (by decide) hc1
 have HS2:Hid (HSrc D w2 b (ns S 8)):=hs1
 have HC2:Hid (Chg (Sx1 b) w w2):=HCA.out.trans hc1
 clear hs1 hc1 y1 HBA HSA HCA
 generalize nv S 8=d8 at *
 by_cases h8:d8=0
 ·rw[if_pos h8] at HV0 HS9
  have h8b:(d8==0)=true:=by simp[h8]
  subst h8
  go_wp2_with fail
  refine(l1Next_any D b (ns S 8) 4 w2 HS2.out HOK1.out (by omega)).mono ?_
  rintro e w1 ⟨rfl,hs1,hc1⟩
  have HS1:Hid (HSrc D w1 b (ns (ns S 8) 4)):=hs1
  have HC1:Hid (Chg (Sx1 b) w w1):=HC2.out.trans hc1
  clear hs1 hc1
  generalize nv (ns S 8) 4=d4 at *
  go_wp2
  go_ret
  exact⟨ret_int HV0.out.symm,by rw[HS9.out];exact HS1.out,HC1.out⟩
 rw[if_neg h8] at HV0 HS9
 have h8b:(d8==0)=false:=by simp[h8]
 have hv:=nv_in HOK1.out ((l:Int)-1)
 have hv2:=hv.2 (by omega)
 obtain⟨j,hj0⟩:∃j:Nat,1+nv (ns S 8) ((l:Int)-1)=j:=⟨(1+nv (ns S 8) ((l:Int)-1)).toNat,by omega⟩
 have hj:j<l:=by omega
 have hj':(j:Int)<(l:Int):=by omega
 have hj1:1<=j:=by omega
 rw[hj0,Int.toNat_natCast] at HV0
 have hd:nv (ns S 8) ((l:Int)-1)=(j:Int)-1:=by omega
 have hsj:(1:Int)+((j:Int)-1)=(j:Int):=by omega
 have HVS:Hid (dlS la S=ns (ns S 8) ((l:Int)-1)):=HS9.out
 have HV:Hid (iat la j=dlV la S):=HV0.out.symm
 have HEX:Hid (∃gl go,a1=some ⟨gl,go,none⟩/\∀w',Chg (Sx1 b) w w'->w'.cell? ⟨gl,go+j,none⟩=some (.int .i64 (iat la j))):=by
  obtain⟨a9,c9,e9,_,k9⟩:=HI.out
  simp only[Value.slice.injEq] at e9
  obtain⟨rfl,-,rfl⟩:=e9
  obtain⟨gl,go,ea,hBg,hbl,hc⟩:=k9 (by rw[HLL.out];omega)
  refine⟨gl,go,ea,λw' hcw=>?_⟩
  have hn:¬Sx1 b gl:=λe=>by have e':gl=b:=e;omega
  have h:=hc j (by rw[HLL.out];exact hj)
  unfold World.cell? at h ⊢
  rw[hcw.block gl hbl hn]
  exact h
 obtain⟨gl,go,rfl,hkp⟩:=HEX.out
 have HKP:Hid (∀w',Chg (Sx1 b) w w'->w'.cell? ⟨gl,go+j,none⟩=some (.int .i64 (iat la j))):=hkp
 clear hkp HEX hv hv2 hj0 HV0 HS9 h8 HI
 generalize iat la j=z at *
 go_upto_region 3 with fail
 have HBD:Hid (BT w2.drew w.heap.size #[.slice a0 n0 c0,.slice (some ⟨gl,go,none⟩) l c1,.slice a2 n2 c2,.slice a3 n3 c3,.slice a4 n4 c4] 26):=HB2.out.next (show Nx w2 w2.drew from(Below.refl _ _).drew)
 have HSD:Hid (HSrc D w2.drew b (ns S 8)):=HS2.out.next (show Nx w2 w2.drew from(Below.refl _ _).drew)
 have HCD:Hid (Chg (Sx1 b) w w2.drew):=HC2.out.trans (Chg.nx (show Nx w2 w2.drew from(Below.refl _ _).drew))
 have HSS:Hid ((λq=>q.cell? ⟨w.heap.size,1,none⟩=some (.slice (some ⟨gl,go,none⟩) l c1)/\q.cell? ⟨gl,go+j,none⟩=some (.int .i64 z)) w2.drew):=⟨HBD.out.blk.cell (i:=1) rfl,HKP.out _ HCD.out⟩
 have hw1:IntKind.i64.wrap ((l:Int)-1)=(l:Int)-1:=by rw[IntKind.wrap_i64];omega
 have hw2:IntKind.i64.wrap (j:Int)=(j:Int):=by rw[IntKind.wrap_i64];omega
 have hw3:IntKind.i64.wrap ((1:Int)+((j:Int)-1))=(j:Int):=by rw[IntKind.wrap_i64];omega
 have hw4:IntKind.i64.wrap (l:Int)=(l:Int):=by rw[IntKind.wrap_i64];omega
 clear HB2 HS2 HC2
 refine(wpIn_wide (n:=9)).1 ?_
 refine wpIn_region_S (c:=11) (S:=λq=>q.cell? ⟨w.heap.size,1,none⟩=some (.slice (some ⟨gl,go,none⟩) l c1)/\q.cell? ⟨gl,go+j,none⟩=some (.int .i64 z)) hmx (by kernel_rfl) (λhw hcl=>?_)
 generalize w2.drew=wd at *
 refine tq (i:=0) (v:=.pointer (some ⟨w.heap.size,1,none⟩)) (λhcl=>?_)
 refine tq (i:=1) (v:=.slice (some ⟨gl,go,none⟩) l c1) (λhcl=>?_)
 refine tq (i:=2) (v:=.pointer (some ⟨b,0,none⟩)) (λhcl=>?_)
 refine tq (i:=3) (v:=.pointer (some ⟨w.heap.size,1,none⟩)) (λhcl=>?_)
 refine tq (i:=4) (v:=.slice (some ⟨gl,go,none⟩) l c1) (λhcl=>?_)
 refine tq (i:=5) (v:=.int .i64 (l:Int)) (λhcl=>?_)
 refine tq (i:=6) (v:=.int .i64 ((l:Int)-1)) (λhcl=>?_)
 refine anyS_one2 (i:=7) (by kernel_rfl) hcl (λhcl=>wpOpIn_step rfl (λK hK=>?_))
 go_simp
 refine⟨trivial,(callsIn_wide.2 (l1Next_any D b (ns S 8) ((l:Int)-1) _ HSD.out HOK1.out (by omega))).mono ?_⟩
 rintro e7 w7 ⟨rfl,hs7,hc7⟩
 have HS7:Hid (HSrc D w7 b (ns (ns S 8) ((l:Int)-1))):=hs7
 have HC7:Hid (Chg (Sx1 b) w w7):=HCD.out.trans hc7
 have HSS:Hid ((λq=>q.cell? ⟨w.heap.size,1,none⟩=some (.slice (some ⟨gl,go,none⟩) l c1)/\q.cell? ⟨gl,go+j,none⟩=some (.int .i64 z)) w7):=⟨(HBD.out.src HSD.out (by decide) hc7).blk.cell (i:=1) rfl,(HKP.out _ HC7.out)⟩
 refine hK _ _ ⟨Or.inr HSS.out,?_⟩
 clear hK K hs7 hc7 HSD HBD HCD
 rw[hd]
 refine tq (i:=8) (v:=.int .i64 (j:Int)) (λhcl=>?_)
 refine tq (i:=9) (v:=.pointer (some ⟨gl,go+j,none⟩)) (λhcl=>?_)
 refine tq (i:=10) (v:=.int .i64 z) (λhcl=>?_)
 refine anyS_one (i:=11) (by kernel_rfl) (wpOpIn_step rfl (λK hK=>?_))
 go_simp
 refine hK _ _ ⟨Or.inl (by decide),?_⟩
 clear hK K
 refine anyS_done (by kernel_rfl) ?_ _
 clear hw hcl HSS
 go_wp2
 go_ret
 exact⟨ret_int HV.out,by rw[HVS.out];exact HS7.out,HC7.out⟩
end Go.Proofs.Ytdpfdkihbgmapaa
