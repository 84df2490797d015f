import Derived.Test.YtdpfdkihbgmapaaGreatVC
namespace Go.Proofs.YtdpfdkihbgmapaaGreat
open Go.RowKit Go.Sort
set_option linter.unusedVariables false
set_option maxRecDepth 1000000
set_option maxHeartbeats 16000000
theorem BT.src {D b g t:Nat}{w w':World}{S:Src}{cs:Array Value}(h:BT w g cs t)(hS:HSrc D w b S)(hn:t≠66)(hc:Chg (Sx1 b) w w'):BT w' g cs t:=by
 obtain⟨u,hb,-⟩:=hS
 exact h.chg hc (λe=>hb.ne h (λq=>hn q.symm) e.symm)
theorem OwnI.cutTo {C b n k c:Nat}{w:World}{zs:List Int}(h:OwnI C w (.slice (some ⟨b,0,none⟩) n c) zs)(hn:zs.length=n)(hk:k<=n):OwnI C w (.slice (some ⟨b,0,none⟩) k c) (zs.take k):=by
 have hl:(zs.take k).length=k:=by rw[List.length_take];omega
 obtain⟨h1,h2⟩:=h
 unfold OwnI
 rw[hl]
 refine⟨by unfold icells;rw[List.length_map,hl,Nat.mul_one],?_⟩
 rcases h2 with⟨h2,_⟩|⟨g,cap,cur,hv,hg,hh,hc,hm,hs,ht⟩
 ·cases h2
 ·simp only[Value.slice.injEq,Option.some.injEq,Addr.mk.injEq] at hv
  obtain⟨⟨rfl,_⟩,_,rfl⟩:=hv
  refine Or.inr ⟨b,c,cur,rfl,hg,hh,by omega,hm,hs,?_⟩
  rw[hn] at ht
  have e:cur.toList.take (k*1)=(cur.toList.take (n*1)).take k:=by rw[List.take_take];congr 1;omega
  rw[e,ht]
  unfold icells
  rw[List.map_take]
theorem row_atv {C n c i:Nat}{w:World}{a:Option Addr}{xs:List Ru}{vs:List Value}(h0:vs.length=xs.length)(h1:w.ownsRow C 36 3 (.slice a n c) xs.length (rcells xs vs))(hi:i<xs.length):∃g cur,a=some ⟨g,0,none⟩/\C<=g/\n=xs.length/\BT w g cur 36/\w.cell? ⟨g,i*3+2,none⟩=some (vat vs i):=by
 obtain⟨h3,h4⟩:=h1
 rcases h4 with⟨_,h4⟩|⟨g,cap,cur,e,hg,hh,hc,hm,hs,ht⟩
 ·omega
 ·simp only[Value.slice.injEq] at e
  have hz:(xs.zip vs)[i]?=some (ruat xs i,vat vs i):=by
   rw[List.getElem?_zip_eq_some]
   exact⟨by rw[ruat_eq hi];exact List.getElem?_eq_getElem hi,by simp[vat,List.getD,List.getElem?_eq_getElem (show i<vs.length by omega)]⟩
  have key:w.cell? ⟨g,i*3+2,none⟩=(rcell (ruat xs i,vat vs i))[2]?:=by
   have e1:(cur.toList.take (xs.length*3))[i*3+2]?=(rcells xs vs)[i*3+2]?:=by rw[ht]
   rw[List.getElem?_take_of_lt (by omega),Array.getElem?_toList] at e1
   have e2:=flat3 (xs.zip vs) rcell (λ_=>rfl) i 2 (by omega) _ hz
   unfold rcells at e1
   rw[e2] at e1
   simp only[World.cell?,hh,e1]
   rfl
  exact⟨g,cur,e.1,hg,e.2.1,hh,key⟩
theorem any3 (D b:Nat)(S:Src)(w:World)(hS:HSrc D w b S)(hok:SOk S)(h3:3<=nv S 40)(h10:nv S 40<10)(hp:0<(drRu (ns S 40)).length)(hk:nv S 40=3) :
  Calls Tryz.prog 13 #[.pointer (some ⟨b,0,none⟩)] w λe w'=>(∃v,e=.returned v/\HRules w.heap.size w' v (anyR S))/\Chg (Sx1 b) w w':=by
 have HOK:Hid (SOk S):=hok
 have HOK1:Hid (SOk (ns S 40)):=ns_ok hok 40
 have HS0:Hid (HSrc D w b S):=hS
 have hmx:Tryz.prog.follows .mixedOrders=true:=by kernel_rfl
 clear hS hok
 have HF0:Hid (anyR S=a3R (nv S 40) (drRu (ns S 40)) (drSr (ns S 40))):=by unfold Hid anyR;rw[if_neg (by omega),if_neg (by omega),if_neg (by omega),if_pos ⟨h10,hp⟩]
 have HDR:=mkHid' (dr_ok HOK1.out)
 go_enter Tryz.func13,Tryz.ntmps13
 go_wp2_with fail
 refine(l1Next_any D b S 40 w HS0.out HOK.out (by omega)).mono ?_
 rintro e w1 ⟨rfl,hs1,hc1⟩
 have HS1:Hid (HSrc D w1 b (ns S 40)):=hs1
 have HC1:Hid (Chg (Sx1 b) w w1):=hc1
 have hz1:w.heap.size<=w1.heap.size:=hc1.size
 clear hs1 hc1 HS0
 generalize nv S 40=kk at *
 have dk0:(kk==0)=false:=by simp;omega
 have dk1:(kk==1)=false:=by simp;omega
 have dk2:(kk==2)=false:=by simp;omega
 go_wp2_with fail
 refine(l3DrawRules_any D b (ns S 40) w1 HS1.out HOK1.out).mono ?_
 rintro e w2 ⟨⟨v,rfl,hr⟩,hs2,hc2⟩
 have HS2:Hid (HSrc D w2 b (drSr (ns S 40))):=hs2
 have HC2:Hid (Chg (Sx1 b) w w2):=HC1.out.trans hc2
 have HOK2:Hid (SOk (drSr (ns S 40))):=HDR.out.1
 have HGD:Hid (RGd 11 77 (drRu (ns S 40))):=HDR.out.2
 clear hs2 hc2 HC1 HS1 HDR
 generalize drRu (ns S 40)=rs at *
 generalize drSr (ns S 40)=S2 at *
 obtain⟨vs,hv0,hv1,hv2⟩:=hr.base hz1 hz1
 have HV0:Hid (LnA vs rs.length):=hv0
 obtain⟨va,vc,ev⟩:=row_slice hv1
 subst ev
 have HV1:Hid (w2.ownsRow w.heap.size 36 3 (.slice va rs.length vc) rs.length (rcells rs vs)):=hv1
 have HV2:Hid (∀i,i<rs.length->OwnI w.heap.size w2 (vat vs i) (ruat rs i).seq):=hv2
 clear hv0 hv1 hv2 hr
 have HLn:Hid (rs.length=rs.length):=rfl
 obtain⟨n,hn⟩:∃n,rs.length=n:=⟨_,rfl⟩
 have HNN:Hid (rs.length=n):=hn
 rw[hn] at hp HV1 ⊢
 have hn11:n<=11:=by have:=HGD.out.len;omega
 clear hn HLn
 have hp':(0:Int)<(n:Int):=by omega
 have h10':decide (kk<10)=true:=by simpa using h10
 go_wp2_with fail
 refine(l1Next_any D b S2 n w2 HS2.out HOK2.out (by omega)).mono ?_
 rintro e w3 ⟨rfl,hs3,hc3⟩
 have HS3:Hid (HSrc D w3 b (ns S2 n)):=hs3
 have HOK3:Hid (SOk (ns S2 n)):=ns_ok HOK2.out _
 have HC3:Hid (Chg (Sx1 b) w w3):=HC2.out.trans hc3
 have HV1b:Hid (w3.ownsRow w.heap.size 36 3 (.slice va n vc) n (rcells rs vs)):=row_src HV1.out HS2.out (by decide) hc3
 have HV2b:Hid (∀i,i<rs.length->OwnI w.heap.size w3 (vat vs i) (ruat rs i).seq):=λi hi=>row_src (HV2.out i hi) HS2.out (by decide) hc3
 have hvi:=nv_in HOK2.out n
 have hvi2:=hvi.2 (by omega)
 obtain⟨i,hi0⟩:∃i:Nat,nv S2 n=i:=⟨(nv S2 n).toNat,by omega⟩
 have hin:i<n:=by omega
 have hin':(i:Int)<(n:Int):=by omega
 have HIL:Hid (i<rs.length):=by unfold Hid;rw[HNN.out];exact hin
 have HF:Hid (anyR S=rs.set i ⟨(ruat rs i).rel,(ruat rs i).only,a3Q kk (ruat rs i) (ns S2 n)⟩):=by
  unfold Hid
  rw[HF0.out]
  unfold a3R a3I
  rw[HNN.out,hi0,Int.toNat_natCast]
 rw[hi0]
 clear hs3 hc3 HS2 HC2 HV1 HV2 hvi hvi2 hi0 HF0
 generalize ns S2 n=S3 at *
 have hse:=HGD.out.each (ruat rs i) (by rw[ruat_eq HIL.out];exact List.getElem_mem HIL.out)
 obtain⟨m,hm⟩:∃m,(ruat rs i).seq.length=m:=⟨_,rfl⟩
 have HML:Hid ((ruat rs i).seq.length=m):=hm
 rw[hm] at hse
 have hm2:=hse.1
 have hm77:=hse.2.1
 clear hse hm
 obtain⟨g,cur,ea,hgC,-,hgb,hcu⟩:=row_atv (a:=va) (n:=n) HV0.out.l (by rw[HNN.out];exact HV1b.out) HIL.out
 subst ea
 obtain⟨gi,ci,cs,hui,hgi,hci,hbi,hcells⟩:=(HV2b.out i HIL.out).open (by rw[HML.out];omega)
 rw[HML.out] at hui hci
 have HUI:Hid (vat vs i=.slice (some ⟨gi,0,none⟩) m ci):=hui
 have HGB:Hid (BT w3 g cur 36):=hgb
 have HBI:Hid (BT w3 gi cs 2):=hbi
 rw[hui] at hcu
 clear hui hgb hbi hcells
 have hz3:w.heap.size<=w3.heap.size:=HC3.out.size
 have hk3:kk=3:=hk
 subst hk3
 have HQ:Hid (a3Q 3 (ruat rs i) S3=(ruat rs i).seq.take 1):=rfl
 rw[HQ.out] at HF
 have fz:=HGB.out.blk.frozen (i*3+2)
 have hu1:OwnI w.heap.size w3 (.slice (some ⟨gi,0,none⟩) 1 ci) ((ruat rs i).seq.take 1):=by
  have h:=HV2b.out i HIL.out
  rw[HUI.out] at h
  exact h.cutTo HML.out (by omega)
 have hap:∀j x,j<rs.length->j≠i->(vat vs j).ownBlock=some x->(Value.slice (some ⟨gi,0,none⟩) 1 ci).ownBlock≠some x:=λj x hj hne hx he=>by
  have hub:(vat vs i).ownBlock=some x:=by rw[HUI.out];exact he
  rcases Nat.lt_or_ge j i with l|l
  ·exact HV0.out.ap j i x l HIL.out hx hub
  ·exact HV0.out.ap i j x (by omega) hj hub hx
 have hres:=OwnR.putSeq (q:=(ruat rs i).seq.take 1) HNN.out HV0.out (by rw[HNN.out];exact HV1b.out) HV2b.out HIL.out hu1 hap
 have HRU:Hid (HRules w.heap.size (w3.setCell ⟨g,i*3+2,none⟩ (.slice (some ⟨gi,0,none⟩) 1 ci)) (.slice (some ⟨g,0,none⟩) n vc) (anyR S)):=by unfold Hid;rw[HF.out];exact hres.rules
 have HCw:Hid (Chg (Sx1 b) w (w3.setCell ⟨g,i*3+2,none⟩ (.slice (some ⟨gi,0,none⟩) 1 ci))):=HC3.out.young (Chg.set (S:=λx=>x=g) _ _ _ rfl) (λx hx hl=>by have e':x=g:=hx;omega)
 have h1c:(1:Int)<=(ci:Int):=by omega
 clear hres hap hu1
 go_wp2
 go_ret
 exact⟨⟨_,rfl,HRU.out⟩,HCw.out⟩
theorem any4 (D b:Nat)(S:Src)(w:World)(hS:HSrc D w b S)(hok:SOk S)(h3:3<=nv S 40)(h10:nv S 40<10)(hp:0<(drRu (ns S 40)).length)(hk:nv S 40=4) :
  Calls Tryz.prog 13 #[.pointer (some ⟨b,0,none⟩)] w λe w'=>(∃v,e=.returned v/\HRules w.heap.size w' v (anyR S))/\Chg (Sx1 b) w w':=by
 have HOK:Hid (SOk S):=hok
 have HOK1:Hid (SOk (ns S 40)):=ns_ok hok 40
 have HS0:Hid (HSrc D w b S):=hS
 have hmx:Tryz.prog.follows .mixedOrders=true:=by kernel_rfl
 clear hS hok
 have HF0:Hid (anyR S=a3R (nv S 40) (drRu (ns S 40)) (drSr (ns S 40))):=by unfold Hid anyR;rw[if_neg (by omega),if_neg (by omega),if_neg (by omega),if_pos ⟨h10,hp⟩]
 have HDR:=mkHid' (dr_ok HOK1.out)
 go_enter Tryz.func13,Tryz.ntmps13
 go_wp2_with fail
 refine(l1Next_any D b S 40 w HS0.out HOK.out (by omega)).mono ?_
 rintro e w1 ⟨rfl,hs1,hc1⟩
 have HS1:Hid (HSrc D w1 b (ns S 40)):=hs1
 have HC1:Hid (Chg (Sx1 b) w w1):=hc1
 have hz1:w.heap.size<=w1.heap.size:=hc1.size
 clear hs1 hc1 HS0
 generalize nv S 40=kk at *
 have dk0:(kk==0)=false:=by simp;omega
 have dk1:(kk==1)=false:=by simp;omega
 have dk2:(kk==2)=false:=by simp;omega
 go_wp2_with fail
 refine(l3DrawRules_any D b (ns S 40) w1 HS1.out HOK1.out).mono ?_
 rintro e w2 ⟨⟨v,rfl,hr⟩,hs2,hc2⟩
 have HS2:Hid (HSrc D w2 b (drSr (ns S 40))):=hs2
 have HC2:Hid (Chg (Sx1 b) w w2):=HC1.out.trans hc2
 have HOK2:Hid (SOk (drSr (ns S 40))):=HDR.out.1
 have HGD:Hid (RGd 11 77 (drRu (ns S 40))):=HDR.out.2
 clear hs2 hc2 HC1 HS1 HDR
 generalize drRu (ns S 40)=rs at *
 generalize drSr (ns S 40)=S2 at *
 obtain⟨vs,hv0,hv1,hv2⟩:=hr.base hz1 hz1
 have HV0:Hid (LnA vs rs.length):=hv0
 obtain⟨va,vc,ev⟩:=row_slice hv1
 subst ev
 have HV1:Hid (w2.ownsRow w.heap.size 36 3 (.slice va rs.length vc) rs.length (rcells rs vs)):=hv1
 have HV2:Hid (∀i,i<rs.length->OwnI w.heap.size w2 (vat vs i) (ruat rs i).seq):=hv2
 clear hv0 hv1 hv2 hr
 have HLn:Hid (rs.length=rs.length):=rfl
 obtain⟨n,hn⟩:∃n,rs.length=n:=⟨_,rfl⟩
 have HNN:Hid (rs.length=n):=hn
 rw[hn] at hp HV1 ⊢
 have hn11:n<=11:=by have:=HGD.out.len;omega
 clear hn HLn
 have hp':(0:Int)<(n:Int):=by omega
 have h10':decide (kk<10)=true:=by simpa using h10
 go_wp2_with fail
 refine(l1Next_any D b S2 n w2 HS2.out HOK2.out (by omega)).mono ?_
 rintro e w3 ⟨rfl,hs3,hc3⟩
 have HS3:Hid (HSrc D w3 b (ns S2 n)):=hs3
 have HOK3:Hid (SOk (ns S2 n)):=ns_ok HOK2.out _
 have HC3:Hid (Chg (Sx1 b) w w3):=HC2.out.trans hc3
 have HV1b:Hid (w3.ownsRow w.heap.size 36 3 (.slice va n vc) n (rcells rs vs)):=row_src HV1.out HS2.out (by decide) hc3
 have HV2b:Hid (∀i,i<rs.length->OwnI w.heap.size w3 (vat vs i) (ruat rs i).seq):=λi hi=>row_src (HV2.out i hi) HS2.out (by decide) hc3
 have hvi:=nv_in HOK2.out n
 have hvi2:=hvi.2 (by omega)
 obtain⟨i,hi0⟩:∃i:Nat,nv S2 n=i:=⟨(nv S2 n).toNat,by omega⟩
 have hin:i<n:=by omega
 have hin':(i:Int)<(n:Int):=by omega
 have HIL:Hid (i<rs.length):=by unfold Hid;rw[HNN.out];exact hin
 have HF:Hid (anyR S=rs.set i ⟨(ruat rs i).rel,(ruat rs i).only,a3Q kk (ruat rs i) (ns S2 n)⟩):=by
  unfold Hid
  rw[HF0.out]
  unfold a3R a3I
  rw[HNN.out,hi0,Int.toNat_natCast]
 rw[hi0]
 clear hs3 hc3 HS2 HC2 HV1 HV2 hvi hvi2 hi0 HF0
 generalize ns S2 n=S3 at *
 have hse:=HGD.out.each (ruat rs i) (by rw[ruat_eq HIL.out];exact List.getElem_mem HIL.out)
 obtain⟨m,hm⟩:∃m,(ruat rs i).seq.length=m:=⟨_,rfl⟩
 have HML:Hid ((ruat rs i).seq.length=m):=hm
 rw[hm] at hse
 have hm2:=hse.1
 have hm77:=hse.2.1
 clear hse hm
 obtain⟨g,cur,ea,hgC,-,hgb,hcu⟩:=row_atv (a:=va) (n:=n) HV0.out.l (by rw[HNN.out];exact HV1b.out) HIL.out
 subst ea
 obtain⟨gi,ci,cs,hui,hgi,hci,hbi,hcells⟩:=(HV2b.out i HIL.out).open (by rw[HML.out];omega)
 rw[HML.out] at hui hci
 have HUI:Hid (vat vs i=.slice (some ⟨gi,0,none⟩) m ci):=hui
 have HGB:Hid (BT w3 g cur 36):=hgb
 have HBI:Hid (BT w3 gi cs 2):=hbi
 rw[hui] at hcu
 clear hui hgb hbi hcells
 have hz3:w.heap.size<=w3.heap.size:=HC3.out.size
 have hk4:kk=4:=hk
 subst hk4
 have HQ:Hid (a3Q 4 (ruat rs i) S3=[]):=rfl
 rw[HQ.out] at HF
 generalize hWB:w3.alloc (.cells #[] 2)=wB
 have hxB:Nx w3 wB:=by rw[<-hWB];exact box1 _ _
 have HGBb:Hid (BT wB g cur 36):=HGB.out.next hxB
 have fz:=HGBb.out.blk.frozen (i*3+2)
 have hcb:=cellq hxB hcu
 have hu1:OwnI w.heap.size wB (.slice (some ⟨w3.heap.size,0,none⟩) 0 0) []:=by rw[<-hWB];exact ownI_none _ _ hz3
 have hap:∀j x,j<rs.length->j≠i->(vat vs j).ownBlock=some x->(Value.slice (some ⟨w3.heap.size,0,none⟩) 0 0).ownBlock≠some x:=λj x hj hne hx he=>by
  have h1:=(own_lt (HV2b.out j hj) x hx).2
  have h2:w3.heap.size=x:=Option.some.inj he
  omega
 have hres:=OwnR.putSeq (q:=[]) HNN.out HV0.out (by rw[HNN.out];exact row_next HV1b.out hxB) (λj hj=>(HV2b.out j hj).next hxB) HIL.out hu1 hap
 have HRU:Hid (HRules w.heap.size (wB.setCell ⟨g,i*3+2,none⟩ (.slice (some ⟨w3.heap.size,0,none⟩) 0 0)) (.slice (some ⟨g,0,none⟩) n vc) (anyR S)):=by unfold Hid;rw[HF.out];exact hres.rules
 have HCw:Hid (Chg (Sx1 b) w (wB.setCell ⟨g,i*3+2,none⟩ (.slice (some ⟨w3.heap.size,0,none⟩) 0 0))):=(HC3.out.trans (Chg.nx hxB)).young (Chg.set (S:=λx=>x=g) _ _ _ rfl) (λx hx hl=>by have e':x=g:=hx;omega)
 clear hres hap hu1 hcu hxB
 subst hWB
 go_wp2
 go_ret
 exact⟨⟨_,rfl,HRU.out⟩,HCw.out⟩
theorem any5 (D b:Nat)(S:Src)(w:World)(hS:HSrc D w b S)(hok:SOk S)(h3:3<=nv S 40)(h10:nv S 40<10)(hp:0<(drRu (ns S 40)).length)(hk:nv S 40=5) :
  Calls Tryz.prog 13 #[.pointer (some ⟨b,0,none⟩)] w λe w'=>(∃v,e=.returned v/\HRules w.heap.size w' v (anyR S))/\Chg (Sx1 b) w w':=by
 have HOK:Hid (SOk S):=hok
 have HOK1:Hid (SOk (ns S 40)):=ns_ok hok 40
 have HS0:Hid (HSrc D w b S):=hS
 have hmx:Tryz.prog.follows .mixedOrders=true:=by kernel_rfl
 clear hS hok
 have HF0:Hid (anyR S=a3R (nv S 40) (drRu (ns S 40)) (drSr (ns S 40))):=by unfold Hid anyR;rw[if_neg (by omega),if_neg (by omega),if_neg (by omega),if_pos ⟨h10,hp⟩]
 have HDR:=mkHid' (dr_ok HOK1.out)
 go_enter Tryz.func13,Tryz.ntmps13
 go_wp2_with fail
 refine(l1Next_any D b S 40 w HS0.out HOK.out (by omega)).mono ?_
 rintro e w1 ⟨rfl,hs1,hc1⟩
 have HS1:Hid (HSrc D w1 b (ns S 40)):=hs1
 have HC1:Hid (Chg (Sx1 b) w w1):=hc1
 have hz1:w.heap.size<=w1.heap.size:=hc1.size
 clear hs1 hc1 HS0
 generalize nv S 40=kk at *
 have dk0:(kk==0)=false:=by simp;omega
 have dk1:(kk==1)=false:=by simp;omega
 have dk2:(kk==2)=false:=by simp;omega
 go_wp2_with fail
 refine(l3DrawRules_any D b (ns S 40) w1 HS1.out HOK1.out).mono ?_
 rintro e w2 ⟨⟨v,rfl,hr⟩,hs2,hc2⟩
 have HS2:Hid (HSrc D w2 b (drSr (ns S 40))):=hs2
 have HC2:Hid (Chg (Sx1 b) w w2):=HC1.out.trans hc2
 have HOK2:Hid (SOk (drSr (ns S 40))):=HDR.out.1
 have HGD:Hid (RGd 11 77 (drRu (ns S 40))):=HDR.out.2
 clear hs2 hc2 HC1 HS1 HDR
 generalize drRu (ns S 40)=rs at *
 generalize drSr (ns S 40)=S2 at *
 obtain⟨vs,hv0,hv1,hv2⟩:=hr.base hz1 hz1
 have HV0:Hid (LnA vs rs.length):=hv0
 obtain⟨va,vc,ev⟩:=row_slice hv1
 subst ev
 have HV1:Hid (w2.ownsRow w.heap.size 36 3 (.slice va rs.length vc) rs.length (rcells rs vs)):=hv1
 have HV2:Hid (∀i,i<rs.length->OwnI w.heap.size w2 (vat vs i) (ruat rs i).seq):=hv2
 clear hv0 hv1 hv2 hr
 have HLn:Hid (rs.length=rs.length):=rfl
 obtain⟨n,hn⟩:∃n,rs.length=n:=⟨_,rfl⟩
 have HNN:Hid (rs.length=n):=hn
 rw[hn] at hp HV1 ⊢
 have hn11:n<=11:=by have:=HGD.out.len;omega
 clear hn HLn
 have hp':(0:Int)<(n:Int):=by omega
 have h10':decide (kk<10)=true:=by simpa using h10
 go_wp2_with fail
 refine(l1Next_any D b S2 n w2 HS2.out HOK2.out (by omega)).mono ?_
 rintro e w3 ⟨rfl,hs3,hc3⟩
 have HS3:Hid (HSrc D w3 b (ns S2 n)):=hs3
 have HOK3:Hid (SOk (ns S2 n)):=ns_ok HOK2.out _
 have HC3:Hid (Chg (Sx1 b) w w3):=HC2.out.trans hc3
 have HV1b:Hid (w3.ownsRow w.heap.size 36 3 (.slice va n vc) n (rcells rs vs)):=row_src HV1.out HS2.out (by decide) hc3
 have HV2b:Hid (∀i,i<rs.length->OwnI w.heap.size w3 (vat vs i) (ruat rs i).seq):=λi hi=>row_src (HV2.out i hi) HS2.out (by decide) hc3
 have hvi:=nv_in HOK2.out n
 have hvi2:=hvi.2 (by omega)
 obtain⟨i,hi0⟩:∃i:Nat,nv S2 n=i:=⟨(nv S2 n).toNat,by omega⟩
 have hin:i<n:=by omega
 have hin':(i:Int)<(n:Int):=by omega
 have HIL:Hid (i<rs.length):=by unfold Hid;rw[HNN.out];exact hin
 have HF:Hid (anyR S=rs.set i ⟨(ruat rs i).rel,(ruat rs i).only,a3Q kk (ruat rs i) (ns S2 n)⟩):=by
  unfold Hid
  rw[HF0.out]
  unfold a3R a3I
  rw[HNN.out,hi0,Int.toNat_natCast]
 rw[hi0]
 clear hs3 hc3 HS2 HC2 HV1 HV2 hvi hvi2 hi0 HF0
 generalize ns S2 n=S3 at *
 have hse:=HGD.out.each (ruat rs i) (by rw[ruat_eq HIL.out];exact List.getElem_mem HIL.out)
 obtain⟨m,hm⟩:∃m,(ruat rs i).seq.length=m:=⟨_,rfl⟩
 have HML:Hid ((ruat rs i).seq.length=m):=hm
 rw[hm] at hse
 have hm2:=hse.1
 have hm77:=hse.2.1
 clear hse hm
 obtain⟨g,cur,ea,hgC,-,hgb,hcu⟩:=row_atv (a:=va) (n:=n) HV0.out.l (by rw[HNN.out];exact HV1b.out) HIL.out
 subst ea
 obtain⟨gi,ci,cs,hui,hgi,hci,hbi,hcells⟩:=(HV2b.out i HIL.out).open (by rw[HML.out];omega)
 rw[HML.out] at hui hci
 have HUI:Hid (vat vs i=.slice (some ⟨gi,0,none⟩) m ci):=hui
 have HGB:Hid (BT w3 g cur 36):=hgb
 have HBI:Hid (BT w3 gi cs 2):=hbi
 rw[hui] at hcu
 clear hui hgb hbi hcells
 have hz3:w.heap.size<=w3.heap.size:=HC3.out.size
 have HQ:Hid (a3Q kk (ruat rs i) S3=(ruat rs i).seq.set (nv S3 m).toNat (-1)):=by
  unfold Hid a3Q
  rw[if_neg (by omega),if_neg (by omega),if_pos (by omega),HML.out]
 rw[HQ.out] at HF
 have hkv:kk=5:=hk
 subst hkv
 go_upto_region 26 with fail
 have hxd:Nx w3 w3.drew:=(Below.refl _ _).drew
 have HSD:Hid (HSrc D w3.drew b S3):=HS3.out.next hxd
 have HCD:Hid (Chg (Sx1 b) w w3.drew):=HC3.out.trans (Chg.nx hxd)
 have HVD1:Hid (w3.drew.ownsRow w.heap.size 36 3 (.slice (some ⟨g,0,none⟩) n vc) n (rcells rs vs)):=row_next HV1b.out hxd
 have HVD2:Hid (∀i,i<rs.length->OwnI w.heap.size w3.drew (vat vs i) (ruat rs i).seq):=λi hi=>(HV2b.out i hi).next hxd
 have HBD:Hid (BT w3.drew gi cs 2):=HBI.out.next hxd
 have HGD3:Hid (BT w3.drew g cur 36):=HGB.out.next hxd
 have HSS:Hid ((λq=>q.cell? ⟨g,i*3+2,none⟩=some (.slice (some ⟨gi,0,none⟩) m ci)) w3.drew):=cellq hxd hcu
 clear HS3 HC3 HV1b HV2b HBI HGB hcu hxd
 refine(wpIn_wide (n:=9)).1 ?_
 refine wpIn_region_S (c:=14) (S:=λq=>q.cell? ⟨g,i*3+2,none⟩=some (.slice (some ⟨gi,0,none⟩) m ci)) hmx (by kernel_rfl) (λhw hcl=>?_)
 generalize w3.drew=wd at *
 refine tq (i:=0) (v:=.slice (some ⟨g,0,none⟩) n vc) (λhcl=>?_)
 refine tq (i:=1) (v:=.int .i64 (i:Int)) (λhcl=>?_)
 refine tq (i:=2) (v:=.pointer (some ⟨g,i*3,none⟩)) (λhcl=>?_)
 refine tq (i:=3) (v:=.pointer (some ⟨g,i*3+2,none⟩)) (λhcl=>?_)
 refine tq (i:=4) (v:=.slice (some ⟨gi,0,none⟩) m ci) (λhcl=>?_)
 refine tq (i:=5) (v:=.pointer (some ⟨b,0,none⟩)) (λhcl=>?_)
 refine tq (i:=6) (v:=.slice (some ⟨g,0,none⟩) n vc) (λhcl=>?_)
 refine tq (i:=7) (v:=.int .i64 (i:Int)) (λhcl=>?_)
 refine tq (i:=8) (v:=.pointer (some ⟨g,i*3,none⟩)) (λhcl=>?_)
 refine tq (i:=9) (v:=.pointer (some ⟨g,i*3+2,none⟩)) (λhcl=>?_)
 refine tq (i:=10) (v:=.slice (some ⟨gi,0,none⟩) m ci) (λhcl=>?_)
 refine tq (i:=11) (v:=.int .i64 (m:Int)) (λhcl=>?_)
 refine anyS_one2 (i:=12) (by kernel_rfl) hcl (λhcl=>wpOpIn_step rfl (λK hK=>?_))
 go_simp
 refine⟨trivial,(callsIn_wide.2 (l1Next_any D b S3 (m:Int) _ HSD.out HOK3.out (by omega))).mono ?_⟩
 rintro e7 w7 ⟨rfl,hs7,hc7⟩
 have HC7:Hid (Chg (Sx1 b) w w7):=HCD.out.trans hc7
 have HW1:Hid (w7.ownsRow w.heap.size 36 3 (.slice (some ⟨g,0,none⟩) n vc) n (rcells rs vs)):=row_src HVD1.out HSD.out (by decide) hc7
 have HW2:Hid (∀i,i<rs.length->OwnI w.heap.size w7 (vat vs i) (ruat rs i).seq):=λi hi=>row_src (HVD2.out i hi) HSD.out (by decide) hc7
 have HB7:Hid (BT w7 gi cs 2):=HBD.out.src HSD.out (by decide) hc7
 have HG7:Hid (BT w7 g cur 36):=HGD3.out.src HSD.out (by decide) hc7
 have HSS:Hid ((λq=>q.cell? ⟨g,i*3+2,none⟩=some (.slice (some ⟨gi,0,none⟩) m ci)) w7):=by
  obtain⟨g',cur',ea,-,-,-,hcu7⟩:=row_atv (a:=some ⟨g,0,none⟩) (n:=n) HV0.out.l (by rw[HNN.out];exact HW1.out) HIL.out
  have e':g=g':=by simpa using ea
  subst e'
  rw[HUI.out] at hcu7
  exact hcu7
 have hvt:=nv_in HOK3.out (m:Int)
 have hvt2:=hvt.2 (by omega)
 obtain⟨t,ht0⟩:∃t:Nat,nv S3 (m:Int)=t:=⟨(nv S3 (m:Int)).toNat,by omega⟩
 have htm:t<m:=by omega
 have htm':(t:Int)<(m:Int):=by omega
 rw[ht0,Int.toNat_natCast] at HF
 rw[ht0]
 have hct:w7.cell? ⟨gi,t,none⟩=some (.int .i64 (iat (ruat rs i).seq t)):=by
  have h:=HW2.out i HIL.out
  rw[HUI.out] at h
  exact(h.in (by rw[HML.out];exact htm)).2.2
 have hft:=HB7.out.blk.frozen t
 have hres:=OwnR.putAt (z:=-1) (t:=t) HV0.out (by rw[HNN.out];exact HW1.out) HW2.out HIL.out HUI.out HML.out
 have HRU:Hid (HRules w.heap.size (w7.setCell ⟨gi,t,none⟩ (.int .i64 (-1))) (.slice (some ⟨g,0,none⟩) n vc) (anyR S)):=by unfold Hid;rw[HF.out];exact hres.rules
 have HCw:Hid (Chg (Sx1 b) w (w7.setCell ⟨gi,t,none⟩ (.int .i64 (-1)))):=HC7.out.young (Chg.set (S:=λx=>x=gi) _ _ _ rfl) (λx hx hl=>by have e':x=gi:=hx;omega)
 refine hK _ _ ⟨Or.inr HSS.out,?_⟩
 clear hK K hs7 hc7 HSD HCD HVD1 HVD2 HBD HGD3 hres hvt hvt2 ht0
 refine tq (i:=13) (v:=.pointer (some ⟨gi,t,none⟩)) (λhcl=>?_)
 refine anyS_one (i:=14) (by kernel_rfl) (wpOpIn_step rfl (λK hK=>?_))
 go_simp
 refine hK _ _ ⟨Or.inl (by decide),?_⟩
 clear hK K
 refine anyS_done (by kernel_rfl) ?_ _
 clear hw hcl HSS hct hft
 go_wp2
 go_ret
 exact⟨⟨_,rfl,HRU.out⟩,HCw.out⟩
theorem any6 (D b:Nat)(S:Src)(w:World)(hS:HSrc D w b S)(hok:SOk S)(h3:3<=nv S 40)(h10:nv S 40<10)(hp:0<(drRu (ns S 40)).length)(hk:nv S 40=6) :
  Calls Tryz.prog 13 #[.pointer (some ⟨b,0,none⟩)] w λe w'=>(∃v,e=.returned v/\HRules w.heap.size w' v (anyR S))/\Chg (Sx1 b) w w':=by
 have HOK:Hid (SOk S):=hok
 have HOK1:Hid (SOk (ns S 40)):=ns_ok hok 40
 have HS0:Hid (HSrc D w b S):=hS
 have hmx:Tryz.prog.follows .mixedOrders=true:=by kernel_rfl
 clear hS hok
 have HF0:Hid (anyR S=a3R (nv S 40) (drRu (ns S 40)) (drSr (ns S 40))):=by unfold Hid anyR;rw[if_neg (by omega),if_neg (by omega),if_neg (by omega),if_pos ⟨h10,hp⟩]
 have HDR:=mkHid' (dr_ok HOK1.out)
 go_enter Tryz.func13,Tryz.ntmps13
 go_wp2_with fail
 refine(l1Next_any D b S 40 w HS0.out HOK.out (by omega)).mono ?_
 rintro e w1 ⟨rfl,hs1,hc1⟩
 have HS1:Hid (HSrc D w1 b (ns S 40)):=hs1
 have HC1:Hid (Chg (Sx1 b) w w1):=hc1
 have hz1:w.heap.size<=w1.heap.size:=hc1.size
 clear hs1 hc1 HS0
 generalize nv S 40=kk at *
 have dk0:(kk==0)=false:=by simp;omega
 have dk1:(kk==1)=false:=by simp;omega
 have dk2:(kk==2)=false:=by simp;omega
 go_wp2_with fail
 refine(l3DrawRules_any D b (ns S 40) w1 HS1.out HOK1.out).mono ?_
 rintro e w2 ⟨⟨v,rfl,hr⟩,hs2,hc2⟩
 have HS2:Hid (HSrc D w2 b (drSr (ns S 40))):=hs2
 have HC2:Hid (Chg (Sx1 b) w w2):=HC1.out.trans hc2
 have HOK2:Hid (SOk (drSr (ns S 40))):=HDR.out.1
 have HGD:Hid (RGd 11 77 (drRu (ns S 40))):=HDR.out.2
 clear hs2 hc2 HC1 HS1 HDR
 generalize drRu (ns S 40)=rs at *
 generalize drSr (ns S 40)=S2 at *
 obtain⟨vs,hv0,hv1,hv2⟩:=hr.base hz1 hz1
 have HV0:Hid (LnA vs rs.length):=hv0
 obtain⟨va,vc,ev⟩:=row_slice hv1
 subst ev
 have HV1:Hid (w2.ownsRow w.heap.size 36 3 (.slice va rs.length vc) rs.length (rcells rs vs)):=hv1
 have HV2:Hid (∀i,i<rs.length->OwnI w.heap.size w2 (vat vs i) (ruat rs i).seq):=hv2
 clear hv0 hv1 hv2 hr
 have HLn:Hid (rs.length=rs.length):=rfl
 obtain⟨n,hn⟩:∃n,rs.length=n:=⟨_,rfl⟩
 have HNN:Hid (rs.length=n):=hn
 rw[hn] at hp HV1 ⊢
 have hn11:n<=11:=by have:=HGD.out.len;omega
 clear hn HLn
 have hp':(0:Int)<(n:Int):=by omega
 have h10':decide (kk<10)=true:=by simpa using h10
 go_wp2_with fail
 refine(l1Next_any D b S2 n w2 HS2.out HOK2.out (by omega)).mono ?_
 rintro e w3 ⟨rfl,hs3,hc3⟩
 have HS3:Hid (HSrc D w3 b (ns S2 n)):=hs3
 have HOK3:Hid (SOk (ns S2 n)):=ns_ok HOK2.out _
 have HC3:Hid (Chg (Sx1 b) w w3):=HC2.out.trans hc3
 have HV1b:Hid (w3.ownsRow w.heap.size 36 3 (.slice va n vc) n (rcells rs vs)):=row_src HV1.out HS2.out (by decide) hc3
 have HV2b:Hid (∀i,i<rs.length->OwnI w.heap.size w3 (vat vs i) (ruat rs i).seq):=λi hi=>row_src (HV2.out i hi) HS2.out (by decide) hc3
 have hvi:=nv_in HOK2.out n
 have hvi2:=hvi.2 (by omega)
 obtain⟨i,hi0⟩:∃i:Nat,nv S2 n=i:=⟨(nv S2 n).toNat,by omega⟩
 have hin:i<n:=by omega
 have hin':(i:Int)<(n:Int):=by omega
 have HIL:Hid (i<rs.length):=by unfold Hid;rw[HNN.out];exact hin
 have HF:Hid (anyR S=rs.set i ⟨(ruat rs i).rel,(ruat rs i).only,a3Q kk (ruat rs i) (ns S2 n)⟩):=by
  unfold Hid
  rw[HF0.out]
  unfold a3R a3I
  rw[HNN.out,hi0,Int.toNat_natCast]
 rw[hi0]
 clear hs3 hc3 HS2 HC2 HV1 HV2 hvi hvi2 hi0 HF0
 generalize ns S2 n=S3 at *
 have hse:=HGD.out.each (ruat rs i) (by rw[ruat_eq HIL.out];exact List.getElem_mem HIL.out)
 obtain⟨m,hm⟩:∃m,(ruat rs i).seq.length=m:=⟨_,rfl⟩
 have HML:Hid ((ruat rs i).seq.length=m):=hm
 rw[hm] at hse
 have hm2:=hse.1
 have hm77:=hse.2.1
 clear hse hm
 obtain⟨g,cur,ea,hgC,-,hgb,hcu⟩:=row_atv (a:=va) (n:=n) HV0.out.l (by rw[HNN.out];exact HV1b.out) HIL.out
 subst ea
 obtain⟨gi,ci,cs,hui,hgi,hci,hbi,hcells⟩:=(HV2b.out i HIL.out).open (by rw[HML.out];omega)
 rw[HML.out] at hui hci
 have HUI:Hid (vat vs i=.slice (some ⟨gi,0,none⟩) m ci):=hui
 have HGB:Hid (BT w3 g cur 36):=hgb
 have HBI:Hid (BT w3 gi cs 2):=hbi
 rw[hui] at hcu
 clear hui hgb hbi hcells
 have hz3:w.heap.size<=w3.heap.size:=HC3.out.size
 have HQ:Hid (a3Q kk (ruat rs i) S3=(ruat rs i).seq.set (nv S3 m).toNat (-1)):=by
  unfold Hid a3Q
  rw[if_neg (by omega),if_neg (by omega),if_pos (by omega),HML.out]
 rw[HQ.out] at HF
 have hkv:kk=6:=hk
 subst hkv
 go_upto_region 26 with fail
 have hxd:Nx w3 w3.drew:=(Below.refl _ _).drew
 have HSD:Hid (HSrc D w3.drew b S3):=HS3.out.next hxd
 have HCD:Hid (Chg (Sx1 b) w w3.drew):=HC3.out.trans (Chg.nx hxd)
 have HVD1:Hid (w3.drew.ownsRow w.heap.size 36 3 (.slice (some ⟨g,0,none⟩) n vc) n (rcells rs vs)):=row_next HV1b.out hxd
 have HVD2:Hid (∀i,i<rs.length->OwnI w.heap.size w3.drew (vat vs i) (ruat rs i).seq):=λi hi=>(HV2b.out i hi).next hxd
 have HBD:Hid (BT w3.drew gi cs 2):=HBI.out.next hxd
 have HGD3:Hid (BT w3.drew g cur 36):=HGB.out.next hxd
 have HSS:Hid ((λq=>q.cell? ⟨g,i*3+2,none⟩=some (.slice (some ⟨gi,0,none⟩) m ci)) w3.drew):=cellq hxd hcu
 clear HS3 HC3 HV1b HV2b HBI HGB hcu hxd
 refine(wpIn_wide (n:=9)).1 ?_
 refine wpIn_region_S (c:=14) (S:=λq=>q.cell? ⟨g,i*3+2,none⟩=some (.slice (some ⟨gi,0,none⟩) m ci)) hmx (by kernel_rfl) (λhw hcl=>?_)
 generalize w3.drew=wd at *
 refine tq (i:=0) (v:=.slice (some ⟨g,0,none⟩) n vc) (λhcl=>?_)
 refine tq (i:=1) (v:=.int .i64 (i:Int)) (λhcl=>?_)
 refine tq (i:=2) (v:=.pointer (some ⟨g,i*3,none⟩)) (λhcl=>?_)
 refine tq (i:=3) (v:=.pointer (some ⟨g,i*3+2,none⟩)) (λhcl=>?_)
 refine tq (i:=4) (v:=.slice (some ⟨gi,0,none⟩) m ci) (λhcl=>?_)
 refine tq (i:=5) (v:=.pointer (some ⟨b,0,none⟩)) (λhcl=>?_)
 refine tq (i:=6) (v:=.slice (some ⟨g,0,none⟩) n vc) (λhcl=>?_)
 refine tq (i:=7) (v:=.int .i64 (i:Int)) (λhcl=>?_)
 refine tq (i:=8) (v:=.pointer (some ⟨g,i*3,none⟩)) (λhcl=>?_)
 refine tq (i:=9) (v:=.pointer (some ⟨g,i*3+2,none⟩)) (λhcl=>?_)
 refine tq (i:=10) (v:=.slice (some ⟨gi,0,none⟩) m ci) (λhcl=>?_)
 refine tq (i:=11) (v:=.int .i64 (m:Int)) (λhcl=>?_)
 refine anyS_one2 (i:=12) (by kernel_rfl) hcl (λhcl=>wpOpIn_step rfl (λK hK=>?_))
 go_simp
 refine⟨trivial,(callsIn_wide.2 (l1Next_any D b S3 (m:Int) _ HSD.out HOK3.out (by omega))).mono ?_⟩
 rintro e7 w7 ⟨rfl,hs7,hc7⟩
 have HC7:Hid (Chg (Sx1 b) w w7):=HCD.out.trans hc7
 have HW1:Hid (w7.ownsRow w.heap.size 36 3 (.slice (some ⟨g,0,none⟩) n vc) n (rcells rs vs)):=row_src HVD1.out HSD.out (by decide) hc7
 have HW2:Hid (∀i,i<rs.length->OwnI w.heap.size w7 (vat vs i) (ruat rs i).seq):=λi hi=>row_src (HVD2.out i hi) HSD.out (by decide) hc7
 have HB7:Hid (BT w7 gi cs 2):=HBD.out.src HSD.out (by decide) hc7
 have HG7:Hid (BT w7 g cur 36):=HGD3.out.src HSD.out (by decide) hc7
 have HSS:Hid ((λq=>q.cell? ⟨g,i*3+2,none⟩=some (.slice (some ⟨gi,0,none⟩) m ci)) w7):=by
  obtain⟨g',cur',ea,-,-,-,hcu7⟩:=row_atv (a:=some ⟨g,0,none⟩) (n:=n) HV0.out.l (by rw[HNN.out];exact HW1.out) HIL.out
  have e':g=g':=by simpa using ea
  subst e'
  rw[HUI.out] at hcu7
  exact hcu7
 have hvt:=nv_in HOK3.out (m:Int)
 have hvt2:=hvt.2 (by omega)
 obtain⟨t,ht0⟩:∃t:Nat,nv S3 (m:Int)=t:=⟨(nv S3 (m:Int)).toNat,by omega⟩
 have htm:t<m:=by omega
 have htm':(t:Int)<(m:Int):=by omega
 rw[ht0,Int.toNat_natCast] at HF
 rw[ht0]
 have hct:w7.cell? ⟨gi,t,none⟩=some (.int .i64 (iat (ruat rs i).seq t)):=by
  have h:=HW2.out i HIL.out
  rw[HUI.out] at h
  exact(h.in (by rw[HML.out];exact htm)).2.2
 have hft:=HB7.out.blk.frozen t
 have hres:=OwnR.putAt (z:=-1) (t:=t) HV0.out (by rw[HNN.out];exact HW1.out) HW2.out HIL.out HUI.out HML.out
 have HRU:Hid (HRules w.heap.size (w7.setCell ⟨gi,t,none⟩ (.int .i64 (-1))) (.slice (some ⟨g,0,none⟩) n vc) (anyR S)):=by unfold Hid;rw[HF.out];exact hres.rules
 have HCw:Hid (Chg (Sx1 b) w (w7.setCell ⟨gi,t,none⟩ (.int .i64 (-1)))):=HC7.out.young (Chg.set (S:=λx=>x=gi) _ _ _ rfl) (λx hx hl=>by have e':x=gi:=hx;omega)
 refine hK _ _ ⟨Or.inr HSS.out,?_⟩
 clear hK K hs7 hc7 HSD HCD HVD1 HVD2 HBD HGD3 hres hvt hvt2 ht0
 refine tq (i:=13) (v:=.pointer (some ⟨gi,t,none⟩)) (λhcl=>?_)
 refine anyS_one (i:=14) (by kernel_rfl) (wpOpIn_step rfl (λK hK=>?_))
 go_simp
 refine hK _ _ ⟨Or.inl (by decide),?_⟩
 clear hK K
 refine anyS_done (by kernel_rfl) ?_ _
 clear hw hcl HSS hct hft
 go_wp2
 go_ret
 exact⟨⟨_,rfl,HRU.out⟩,HCw.out⟩
theorem any7 (D b:Nat)(S:Src)(w:World)(hS:HSrc D w b S)(hok:SOk S)(h3:3<=nv S 40)(h10:nv S 40<10)(hp:0<(drRu (ns S 40)).length)(hk:7<=nv S 40) :
  Calls Tryz.prog 13 #[.pointer (some ⟨b,0,none⟩)] w λe w'=>(∃v,e=.returned v/\HRules w.heap.size w' v (anyR S))/\Chg (Sx1 b) w w':=by
 have HOK:Hid (SOk S):=hok
 have HOK1:Hid (SOk (ns S 40)):=ns_ok hok 40
 have HS0:Hid (HSrc D w b S):=hS
 have hmx:Tryz.prog.follows .mixedOrders=true:=by kernel_rfl
 clear hS hok
 have HF0:Hid (anyR S=a3R (nv S 40) (drRu (ns S 40)) (drSr (ns S 40))):=by unfold Hid anyR;rw[if_neg (by omega),if_neg (by omega),if_neg (by omega),if_pos ⟨h10,hp⟩]
 have HDR:=mkHid' (dr_ok HOK1.out)
 go_enter Tryz.func13,Tryz.ntmps13
 go_wp2_with fail
 refine(l1Next_any D b S 40 w HS0.out HOK.out (by omega)).mono ?_
 rintro e w1 ⟨rfl,hs1,hc1⟩
 have HS1:Hid (HSrc D w1 b (ns S 40)):=hs1
 have HC1:Hid (Chg (Sx1 b) w w1):=hc1
 have hz1:w.heap.size<=w1.heap.size:=hc1.size
 clear hs1 hc1 HS0
 generalize nv S 40=kk at *
 have dk0:(kk==0)=false:=by simp;omega
 have dk1:(kk==1)=false:=by simp;omega
 have dk2:(kk==2)=false:=by simp;omega
 go_wp2_with fail
 refine(l3DrawRules_any D b (ns S 40) w1 HS1.out HOK1.out).mono ?_
 rintro e w2 ⟨⟨v,rfl,hr⟩,hs2,hc2⟩
 have HS2:Hid (HSrc D w2 b (drSr (ns S 40))):=hs2
 have HC2:Hid (Chg (Sx1 b) w w2):=HC1.out.trans hc2
 have HOK2:Hid (SOk (drSr (ns S 40))):=HDR.out.1
 have HGD:Hid (RGd 11 77 (drRu (ns S 40))):=HDR.out.2
 clear hs2 hc2 HC1 HS1 HDR
 generalize drRu (ns S 40)=rs at *
 generalize drSr (ns S 40)=S2 at *
 obtain⟨vs,hv0,hv1,hv2⟩:=hr.base hz1 hz1
 have HV0:Hid (LnA vs rs.length):=hv0
 obtain⟨va,vc,ev⟩:=row_slice hv1
 subst ev
 have HV1:Hid (w2.ownsRow w.heap.size 36 3 (.slice va rs.length vc) rs.length (rcells rs vs)):=hv1
 have HV2:Hid (∀i,i<rs.length->OwnI w.heap.size w2 (vat vs i) (ruat rs i).seq):=hv2
 clear hv0 hv1 hv2 hr
 have HLn:Hid (rs.length=rs.length):=rfl
 obtain⟨n,hn⟩:∃n,rs.length=n:=⟨_,rfl⟩
 have HNN:Hid (rs.length=n):=hn
 rw[hn] at hp HV1 ⊢
 have hn11:n<=11:=by have:=HGD.out.len;omega
 clear hn HLn
 have hp':(0:Int)<(n:Int):=by omega
 have h10':decide (kk<10)=true:=by simpa using h10
 go_wp2_with fail
 refine(l1Next_any D b S2 n w2 HS2.out HOK2.out (by omega)).mono ?_
 rintro e w3 ⟨rfl,hs3,hc3⟩
 have HS3:Hid (HSrc D w3 b (ns S2 n)):=hs3
 have HOK3:Hid (SOk (ns S2 n)):=ns_ok HOK2.out _
 have HC3:Hid (Chg (Sx1 b) w w3):=HC2.out.trans hc3
 have HV1b:Hid (w3.ownsRow w.heap.size 36 3 (.slice va n vc) n (rcells rs vs)):=row_src HV1.out HS2.out (by decide) hc3
 have HV2b:Hid (∀i,i<rs.length->OwnI w.heap.size w3 (vat vs i) (ruat rs i).seq):=λi hi=>row_src (HV2.out i hi) HS2.out (by decide) hc3
 have hvi:=nv_in HOK2.out n
 have hvi2:=hvi.2 (by omega)
 obtain⟨i,hi0⟩:∃i:Nat,nv S2 n=i:=⟨(nv S2 n).toNat,by omega⟩
 have hin:i<n:=by omega
 have hin':(i:Int)<(n:Int):=by omega
 have HIL:Hid (i<rs.length):=by unfold Hid;rw[HNN.out];exact hin
 have HF:Hid (anyR S=rs.set i ⟨(ruat rs i).rel,(ruat rs i).only,a3Q kk (ruat rs i) (ns S2 n)⟩):=by
  unfold Hid
  rw[HF0.out]
  unfold a3R a3I
  rw[HNN.out,hi0,Int.toNat_natCast]
 rw[hi0]
 clear hs3 hc3 HS2 HC2 HV1 HV2 hvi hvi2 hi0 HF0
 generalize ns S2 n=S3 at *
 have hse:=HGD.out.each (ruat rs i) (by rw[ruat_eq HIL.out];exact List.getElem_mem HIL.out)
 obtain⟨m,hm⟩:∃m,(ruat rs i).seq.length=m:=⟨_,rfl⟩
 have HML:Hid ((ruat rs i).seq.length=m):=hm
 rw[hm] at hse
 have hm2:=hse.1
 have hm77:=hse.2.1
 clear hse hm
 obtain⟨g,cur,ea,hgC,-,hgb,hcu⟩:=row_atv (a:=va) (n:=n) HV0.out.l (by rw[HNN.out];exact HV1b.out) HIL.out
 subst ea
 obtain⟨gi,ci,cs,hui,hgi,hci,hbi,hcells⟩:=(HV2b.out i HIL.out).open (by rw[HML.out];omega)
 rw[HML.out] at hui hci
 have HUI:Hid (vat vs i=.slice (some ⟨gi,0,none⟩) m ci):=hui
 have HGB:Hid (BT w3 g cur 36):=hgb
 have HBI:Hid (BT w3 gi cs 2):=hbi
 rw[hui] at hcu
 clear hui hgb hbi hcells
 have hz3:w.heap.size<=w3.heap.size:=HC3.out.size
 have HQ:Hid (a3Q kk (ruat rs i) S3=(ruat rs i).seq.set (nv S3 m).toNat (4000)):=by
  unfold Hid a3Q
  rw[if_neg (by omega),if_neg (by omega),if_neg (by omega),HML.out]
 rw[HQ.out] at HF
 have d3:(kk==3)=false:=by simp;omega
 have d4:(kk==4)=false:=by simp;omega
 have d5:(kk==5)=false:=by simp;omega
 have d6:(kk==6)=false:=by simp;omega
 have d7:(6:Int)<kk:=by omega
 go_upto_region 28 with fail
 have hxd:Nx w3 w3.drew:=(Below.refl _ _).drew
 have HSD:Hid (HSrc D w3.drew b S3):=HS3.out.next hxd
 have HCD:Hid (Chg (Sx1 b) w w3.drew):=HC3.out.trans (Chg.nx hxd)
 have HVD1:Hid (w3.drew.ownsRow w.heap.size 36 3 (.slice (some ⟨g,0,none⟩) n vc) n (rcells rs vs)):=row_next HV1b.out hxd
 have HVD2:Hid (∀i,i<rs.length->OwnI w.heap.size w3.drew (vat vs i) (ruat rs i).seq):=λi hi=>(HV2b.out i hi).next hxd
 have HBD:Hid (BT w3.drew gi cs 2):=HBI.out.next hxd
 have HGD3:Hid (BT w3.drew g cur 36):=HGB.out.next hxd
 have HSS:Hid ((λq=>q.cell? ⟨g,i*3+2,none⟩=some (.slice (some ⟨gi,0,none⟩) m ci)) w3.drew):=cellq hxd hcu
 clear HS3 HC3 HV1b HV2b HBI HGB hcu hxd
 refine(wpIn_wide (n:=9)).1 ?_
 refine wpIn_region_S (c:=14) (S:=λq=>q.cell? ⟨g,i*3+2,none⟩=some (.slice (some ⟨gi,0,none⟩) m ci)) hmx (by kernel_rfl) (λhw hcl=>?_)
 generalize w3.drew=wd at *
 refine tq (i:=0) (v:=.slice (some ⟨g,0,none⟩) n vc) (λhcl=>?_)
 refine tq (i:=1) (v:=.int .i64 (i:Int)) (λhcl=>?_)
 refine tq (i:=2) (v:=.pointer (some ⟨g,i*3,none⟩)) (λhcl=>?_)
 refine tq (i:=3) (v:=.pointer (some ⟨g,i*3+2,none⟩)) (λhcl=>?_)
 refine tq (i:=4) (v:=.slice (some ⟨gi,0,none⟩) m ci) (λhcl=>?_)
 refine tq (i:=5) (v:=.pointer (some ⟨b,0,none⟩)) (λhcl=>?_)
 refine tq (i:=6) (v:=.slice (some ⟨g,0,none⟩) n vc) (λhcl=>?_)
 refine tq (i:=7) (v:=.int .i64 (i:Int)) (λhcl=>?_)
 refine tq (i:=8) (v:=.pointer (some ⟨g,i*3,none⟩)) (λhcl=>?_)
 refine tq (i:=9) (v:=.pointer (some ⟨g,i*3+2,none⟩)) (λhcl=>?_)
 refine tq (i:=10) (v:=.slice (some ⟨gi,0,none⟩) m ci) (λhcl=>?_)
 refine tq (i:=11) (v:=.int .i64 (m:Int)) (λhcl=>?_)
 refine anyS_one2 (i:=12) (by kernel_rfl) hcl (λhcl=>wpOpIn_step rfl (λK hK=>?_))
 go_simp
 refine⟨trivial,(callsIn_wide.2 (l1Next_any D b S3 (m:Int) _ HSD.out HOK3.out (by omega))).mono ?_⟩
 rintro e7 w7 ⟨rfl,hs7,hc7⟩
 have HC7:Hid (Chg (Sx1 b) w w7):=HCD.out.trans hc7
 have HW1:Hid (w7.ownsRow w.heap.size 36 3 (.slice (some ⟨g,0,none⟩) n vc) n (rcells rs vs)):=row_src HVD1.out HSD.out (by decide) hc7
 have HW2:Hid (∀i,i<rs.length->OwnI w.heap.size w7 (vat vs i) (ruat rs i).seq):=λi hi=>row_src (HVD2.out i hi) HSD.out (by decide) hc7
 have HB7:Hid (BT w7 gi cs 2):=HBD.out.src HSD.out (by decide) hc7
 have HG7:Hid (BT w7 g cur 36):=HGD3.out.src HSD.out (by decide) hc7
 have HSS:Hid ((λq=>q.cell? ⟨g,i*3+2,none⟩=some (.slice (some ⟨gi,0,none⟩) m ci)) w7):=by
  obtain⟨g',cur',ea,-,-,-,hcu7⟩:=row_atv (a:=some ⟨g,0,none⟩) (n:=n) HV0.out.l (by rw[HNN.out];exact HW1.out) HIL.out
  have e':g=g':=by simpa using ea
  subst e'
  rw[HUI.out] at hcu7
  exact hcu7
 have hvt:=nv_in HOK3.out (m:Int)
 have hvt2:=hvt.2 (by omega)
 obtain⟨t,ht0⟩:∃t:Nat,nv S3 (m:Int)=t:=⟨(nv S3 (m:Int)).toNat,by omega⟩
 have htm:t<m:=by omega
 have htm':(t:Int)<(m:Int):=by omega
 rw[ht0,Int.toNat_natCast] at HF
 rw[ht0]
 have hct:w7.cell? ⟨gi,t,none⟩=some (.int .i64 (iat (ruat rs i).seq t)):=by
  have h:=HW2.out i HIL.out
  rw[HUI.out] at h
  exact(h.in (by rw[HML.out];exact htm)).2.2
 have hft:=HB7.out.blk.frozen t
 have hres:=OwnR.putAt (z:=4000) (t:=t) HV0.out (by rw[HNN.out];exact HW1.out) HW2.out HIL.out HUI.out HML.out
 have HRU:Hid (HRules w.heap.size (w7.setCell ⟨gi,t,none⟩ (.int .i64 (4000))) (.slice (some ⟨g,0,none⟩) n vc) (anyR S)):=by unfold Hid;rw[HF.out];exact hres.rules
 have HCw:Hid (Chg (Sx1 b) w (w7.setCell ⟨gi,t,none⟩ (.int .i64 (4000)))):=HC7.out.young (Chg.set (S:=λx=>x=gi) _ _ _ rfl) (λx hx hl=>by have e':x=gi:=hx;omega)
 refine hK _ _ ⟨Or.inr HSS.out,?_⟩
 clear hK K hs7 hc7 HSD HCD HVD1 HVD2 HBD HGD3 hres hvt hvt2 ht0
 refine tq (i:=13) (v:=.pointer (some ⟨gi,t,none⟩)) (λhcl=>?_)
 refine anyS_one (i:=14) (by kernel_rfl) (wpOpIn_step rfl (λK hK=>?_))
 go_simp
 refine hK _ _ ⟨Or.inl (by decide),?_⟩
 clear hK K
 refine anyS_done (by kernel_rfl) ?_ _
 clear hw hcl HSS hct hft
 go_wp2
 go_ret
 exact⟨⟨_,rfl,HRU.out⟩,HCw.out⟩
theorem drawAny_any (D b:Nat)(S:Src)(w:World)(hS:HSrc D w b S)(hok:SOk S) :
  Calls Tryz.prog 13 #[.pointer (some ⟨b,0,none⟩)] w λe w'=>(∃v,e=.returned v/\HRules w.heap.size w' v (anyR S))/\Chg (Sx1 b) w w':=by
 have hv:=nv_in hok 40
 have hv':=hv.2 (by omega)
 by_cases k0:nv S 40=0
 ·exact any0 D b S w hS hok k0
 by_cases k1:nv S 40=1
 ·exact any1 D b S w hS hok k1
 by_cases k2:nv S 40=2
 ·exact any2 D b S w hS hok k2
 by_cases hn:nv S 40<10/\0<(drRu (ns S 40)).length
 ·obtain⟨h10,hp⟩:=hn
  by_cases k3:nv S 40=3
  ·exact any3 D b S w hS hok (by omega) h10 hp k3
  by_cases k4:nv S 40=4
  ·exact any4 D b S w hS hok (by omega) h10 hp k4
  by_cases k5:nv S 40=5
  ·exact any5 D b S w hS hok (by omega) h10 hp k5
  by_cases k6:nv S 40=6
  ·exact any6 D b S w hS hok (by omega) h10 hp k6
  exact any7 D b S w hS hok (by omega) h10 hp (by omega)
 ·exact anyP D b S w hS hok (by omega) hn
theorem HBy.next {B:Nat}{w w':World}{v:Value}{bs:List UInt8}(h:HBy B w v bs)(k:Nx w w'):HBy B w' v bs:=HSlice.mono h (Nat.le_refl _) k.size λb off hb hs i hi hc=>cellq k hc
theorem l1Source_new (B:Nat)(v:Value)(code:List UInt8)(w:World)(h:HBy B w v code)(hl:code.length<=1048576) :
  Calls Tryz.prog 14 #[v] w λe w'=>(∃b,e=.returned (.pointer (some ⟨b,0,none⟩))/\HSrc w.heap.size w' b (srcOf code)/\w.heap.size<=b)/\Nx w w':=by
 obtain⟨ca,cc,rfl,_,hk⟩:=h
 generalize hn:code.length=n at *
 have HN:Hid (code.length=n):=hn
 have HK:Hid (0<n->∃b off,ca=some ⟨b,off,none⟩/\B<=b/\b<w.heap.size/\∀i,i<n->w.cell? ⟨b,off+i,none⟩=some (.int .u8 (byteAt code i))):=hk
 clear hk hn
 go_enter Tryz.func14,Tryz.ntmps14
 go_wp2
 generalize hWA:w.alloc (.cells #[.slice none 0 0,.int .i64 0,.int .i64 0,.int .i64 0] 66)=wA
 have HXA:Hid (Nx w wA):=by unfold Hid;rw[<-hWA];exact box1 _ _
 have HBA:Hid (BT wA w.heap.size #[.slice none 0 0,.int .i64 0,.int .i64 0,.int .i64 0] 66):=by unfold Hid;rw[<-hWA];exact BT.new _ _ _ _ rfl
 clear hWA
 go_loopw [4] (λi wr=>∃(k c:Nat) (a:Option Addr),k<=n/\k<=4000/\i=.int .i64 k/\Hid (BT wr w.heap.size #[.slice a k c,.int .i64 0,.int .i64 0,.int .i64 0] 66)/\Hid (OwnBy w.heap.size wr (.slice a k c) (code.take k))/\Hid (Nx w wr)) (λi _=>n-(intOf i).toNat)
 case atStart=>exact⟨0,0,none,Nat.zero_le _,Nat.zero_le _,rfl,HBA,⟨rfl,Or.inl ⟨rfl,rfl⟩⟩,HXA⟩
 obtain⟨k,c,a,hkn,hk4,rfl,HB,HO,HX⟩:=hrel
 by_cases hlt:k<n/\k<4000
 ·obtain⟨h1,h2⟩:=hlt
  have h1':(k:Int)<n:=by omega
  have h2':(k:Int)<4000:=by omega
  obtain⟨cb,co,rfl,_,hcb,hc⟩:=HK.out (by omega)
  have cy:=cell_next HX.out hcb (hc k h1)
  have HTL:Hid ((code.take k).length=k):=by unfold Hid;rw[List.length_take,HN.out];omega
  have HOR:Hid (wr.ownsRow w.heap.size 5 1 (.slice a k c) k ((code.take k).map λx:UInt8=>Value.int .u8 (x.toNat:Int))):=by
   have h:=HO.out
   unfold OwnBy at h
   rw[HTL.out] at h
   exact h
  generalize hy:byteAt code k=y at *
  have HY:Hid (byteAt code k=y):=hy
  clear hc hy
  go_upto_region 5 with fail
  have HSN:Hid (∀q,Nx wr.drew q->(λq=>q.cell? ⟨w.heap.size,0,none⟩=some (.slice a k c)/\q.cell? ⟨cb,co+k,none⟩=some (.int .u8 y)) q):=λq hq=>⟨cellq hq (show wr.drew.cell? _=_ from HB.out.blk.cell (i:=0) rfl),cellq hq (show wr.drew.cell? _=_ from cy)⟩
  have HSS:Hid ((λq=>q.cell? ⟨w.heap.size,0,none⟩=some (.slice a k c)/\q.cell? ⟨cb,co+k,none⟩=some (.int .u8 y)) wr.drew):=HSN.out _ (Nx.refl _)
  have hmx:Tryz.prog.follows .mixedOrders=true:=by kernel_rfl
  have hzz:w.heap.size<=wr.heap.size:=HX.out.size
  refine(wpIn_wide (n:=9)).1 ?_
  refine wpIn_region_S (c:=9) (S:=λq=>q.cell? ⟨w.heap.size,0,none⟩=some (.slice a k c)/\q.cell? ⟨cb,co+k,none⟩=some (.int .u8 y)) hmx (by kernel_rfl) (λhw hcl=>?_)
  refine tq (i:=0) (v:=.pointer (some ⟨w.heap.size,0,none⟩)) (λhcl=>?_)
  refine tq (i:=1) (v:=.slice a k c) (λhcl=>?_)
  refine tq (i:=2) (v:=.slice (some ⟨cb,co,none⟩) n cc) (λhcl=>?_)
  refine tq (i:=3) (v:=.int .i64 (k:Int)) (λhcl=>?_)
  refine tq (i:=4) (v:=.pointer (some ⟨cb,co+k,none⟩)) (λhcl=>?_)
  refine tq (i:=5) (v:=.int .u8 y) (λhcl=>?_)
  refine anyS_one (i:=6) (by kernel_rfl) (wpOpIn_step rfl (λK hK=>?_))
  go_simp
  refine hK _ _ ⟨Or.inr (HSN.out _ (box1 _ _)),?_⟩
  clear hK K
  refine anyS_one (i:=7) (by kernel_rfl) (wpOpIn_step rfl (λK hK=>?_))
  refine app_row_in infoByteE Tryz.underlying22 rfl (by decide) (by decide) rfl (.tmp 18) (.tmp 23) rfl w.heap.size k (.slice a k c) ((code.take k).map λx:UInt8=>Value.int .u8 (x.toNat:Int)) [.int .u8 y] wr.drew _ rfl (by simp[Act.eval]) (show wr.drew.ownsRow _ _ _ _ _ _ from HOR.out) (by simp[Act.eval]) rfl (by intro u hu;simp at hu;subst hu;rfl) (by omega) hzz ?_
  intro a1 c1 w1 r1 r2 r3
  have HB1:Hid (BT w1 w.heap.size #[.slice a k c,.int .i64 0,.int .i64 0,.int .i64 0] 66):=BT.row (show BT wr.drew _ _ _ from HB.out) (show wr.drew.ownsRow _ _ _ _ _ _ from HOR.out) (by decide) r2
  have HS1:Hid ((λq=>q.cell? ⟨w.heap.size,0,none⟩=some (.slice a k c)/\q.cell? ⟨cb,co+k,none⟩=some (.int .u8 y)) w1):=⟨HB1.out.blk.cell (i:=0) rfl,by
   refine(r2.cellAt ?_ ?_).trans cy
   ·exact Nat.lt_of_lt_of_le hcb HX.out.size
   ·intro e
    have:=(own_lt HOR.out cb e.symm).1
    omega⟩
  refine hK _ _ ⟨Or.inr HS1.out,?_⟩
  clear hK K
  refine anyS_one (i:=8) (by kernel_rfl) (wpOpIn_step rfl (λK hK=>?_))
  go_simp
  refine hK _ _ ⟨Or.inr HS1.out,?_⟩
  clear hK K
  have g0:=HB1.out.blk.cell (i:=0) rfl
  have f0:=HB1.out.blk.frozen 0
  refine anyS_one (i:=9) (by kernel_rfl) (wpOpIn_step rfl (λK hK=>?_))
  go_simp
  refine hK _ _ ⟨Or.inl (by decide),?_⟩
  clear hK K
  refine anyS_done (by kernel_rfl) ?_ _
  clear hw hcl g0 f0 HSS HSN HS1
  have HB2:Hid (BT (w1.setCell ⟨w.heap.size,0,none⟩ (.slice a1 (k+1) c1)) w.heap.size #[.slice a1 (k+1) c1,.int .i64 0,.int .i64 0,.int .i64 0] 66):=HB1.out.set 0 _
  have HO2:Hid (OwnBy w.heap.size (w1.setCell ⟨w.heap.size,0,none⟩ (.slice a1 (k+1) c1)) (.slice a1 (k+1) c1) (code.take (k+1))):=by
   unfold Hid OwnBy
   have e1:code.take (k+1)=code.take k++[code.getD k 0]:=by
    rw[List.take_succ_eq_append_getElem (by rw[HN.out];exact h1)]
    simp[List.getD_eq_getElem?_getD,HN.out,h1]
   rw[e1,List.length_append,HTL.out,List.map_append]
   have e2:(Value.int .u8 y)=.int .u8 ((code.getD k 0).toNat:Int):=by rw[<-HY.out];rfl
   rw[e2] at r1
   exact row_setBT r1 HB1.out (by decide) _ _
  have HX2:Hid (Nx w (w1.setCell ⟨w.heap.size,0,none⟩ (.slice a1 (k+1) c1))):=Below.setCell (Below.trans (HX.out.trans (show Nx wr wr.drew from(Below.refl _ _).drew)) (r2.below HX.out.size (λx hx=>(own_lt HOR.out x hx.symm).1))) (Nat.le_refl _) _
  clear r1 r2 r3
  go_wp2
  go_roundw
  case rel=>exact⟨k+1,c1,a1,by omega,by omega,by go_num,HB2,HO2,HX2⟩
  case measure=>simp[intOf];omega
 have HTL:Hid ((code.take 4000).length=k/\code.take k=code.take 4000):=by
  have hk':k=min 4000 n:=by omega
  refine⟨by rw[List.length_take,HN.out];omega,?_⟩
  rw[hk',<-HN.out]
  simp[List.take_eq_take_iff]
 go_upto_region 3 with fail
 go_cut [14] from 7 to 13 (λs wc=>s=.bool false/\wc=wr)
 case first=>
  by_cases h1:k<n
  ·have d1:decide ((k:Int)<n)=true:=by simp;omega
   have d2:decide ((k:Int)<4000)=false:=by simp;omega
   have d3:¬(k:Int)<4000:=by omega
   have d4:(k:Int)<n:=by omega
   go_wp2
   go_meet
   exact⟨by first|rfl|simp;omega,rfl⟩
  ·have d1:decide ((k:Int)<n)=false:=by simp;omega
   have d4:¬(k:Int)<n:=by omega
   go_wp2
   go_meet
   exact⟨by first|rfl|simp;omega,rfl⟩
 case rest=>
 obtain⟨rfl,rfl⟩:=hcut
 have m2:=HB.out.blk.cell (i:=2) rfl
 have f2:=HB.out.blk.frozen 2
 go_upto_region 7 with fail
 generalize hW2:wc.setCell ⟨w.heap.size,2,none⟩ (.int .i64 ((n:Int)%1000+17))=w2
 have HO0:Hid (OwnBy w.heap.size wc (.slice a k c) (code.take 4000)):=by unfold Hid;rw[<-HTL.out.2];exact HO.out
 have hnm:0<=(n:Int)%1000+17/\(n:Int)%1000+17<1000003:=by omega
 generalize hm0:(n:Int)%1000+17=m0 at *
 have HM0:Hid ((n:Int)%1000+17=m0):=hm0
 have HB2:Hid (BT w2 w.heap.size #[.slice a k c,.int .i64 0,.int .i64 m0,.int .i64 0] 66):=by unfold Hid;rw[<-hW2];exact HB.out.set 2 _
 have HO2:Hid (OwnBy w.heap.size w2 (.slice a k c) (code.take 4000)):=by unfold Hid;rw[<-hW2];exact row_setBT HO0.out HB.out (by decide) _ _
 have HX2:Hid (Nx w w2):=by unfold Hid;rw[<-hW2];exact Below.setCell HX.out (Nat.le_refl _) _
 generalize hct:code.take 4000=cT at *
 have HCT:Hid (code.take 4000=cT):=hct
 have HML:Hid (cT.length=k):=HTL.out.1
 clear hW2 hm0 m2 f2 HO HB HX HO0 HTL hct
 have HMI:Hid (∀j,0<=mixTo cT m0 j/\mixTo cT m0 j<1000003):=mixTo_in cT hnm
 go_wp2
 go_loopw [5] (λi wr=>∃j:Nat,j<=k/\i=.int .i64 j/\Hid (BT wr w.heap.size #[.slice a k c,.int .i64 0,.int .i64 (mixTo cT m0 j),.int .i64 0] 66)/\Hid (OwnBy w.heap.size wr (.slice a k c) cT)/\Hid (Nx w wr)) (λi _=>k-(intOf i).toNat)
 case atStart=>exact⟨0,Nat.zero_le _,rfl,HB2,HO2,HX2⟩
 clear HB2 HO2 HX2
 obtain⟨j,hj,rfl,HBJ,HOJ,HXJ⟩:=hrel
 have g0:=HBJ.out.blk.cell (i:=0) rfl
 by_cases hjl:j<k
 ·have hjl':(j:Int)<k:=by omega
  obtain⟨a9,c9,e9,_,hk9⟩:=HOJ.out.held
  rw[HML.out] at e9 hk9
  simp only[Value.slice.injEq] at e9
  obtain⟨ea,ek,ec⟩:=e9
  subst ea ec
  clear ek
  obtain⟨gb,go,rfl,_,_,hc9⟩:=hk9 (by omega)
  have cy:wr.cell? ⟨gb,go+j,none⟩=some (.int .u8 (byteAt cT j)):=hc9 j hjl
  have hyb:=byteAt_in cT j
  have hmi:=HMI.out j
  have HSTP:Hid (mixTo cT m0 (j+1)=(mixTo cT m0 j*257+byteAt cT j+1)%1000003):=rfl
  generalize byteAt cT j=y at *
  generalize mixTo cT m0 j=mm at *
  clear hk9 hc9
  go_upto_region 10 with fail
  clear g0
  have HSS:Hid ((λq=>q.cell? ⟨w.heap.size,2,none⟩=some (.int .i64 mm)/\q.cell? ⟨w.heap.size,0,none⟩=some (.slice (some ⟨gb,go,none⟩) k c)/\q.cell? ⟨gb,go+j,none⟩=some (.int .u8 y)) wr.drew):=⟨show wr.drew.cell? _=_ from HBJ.out.blk.cell (i:=2) rfl,show wr.drew.cell? _=_ from HBJ.out.blk.cell (i:=0) rfl,show wr.drew.cell? _=_ from cy⟩
  have hmx:Tryz.prog.follows .mixedOrders=true:=by kernel_rfl
  have g2:wr.drew.cell? ⟨w.heap.size,2,none⟩=some (.int .i64 mm):=HSS.out.1
  have f2:wr.drew.frozen? ⟨w.heap.size,2,none⟩=false:=HBJ.out.blk.drew.frozen 2
  refine(wpIn_wide (n:=9)).1 ?_
  refine wpIn_region_S (c:=13) (S:=λq=>q.cell? ⟨w.heap.size,2,none⟩=some (.int .i64 mm)/\q.cell? ⟨w.heap.size,0,none⟩=some (.slice (some ⟨gb,go,none⟩) k c)/\q.cell? ⟨gb,go+j,none⟩=some (.int .u8 y)) hmx (by kernel_rfl) (λhw hcl=>?_)
  refine tq (i:=0) (v:=.pointer (some ⟨w.heap.size,2,none⟩)) (λhcl=>?_)
  refine tq (i:=1) (v:=.int .i64 mm) (λhcl=>?_)
  refine anyS_take (i:=2) (v:=.int .i64 (mm*257)) hw (by decide) hcl (noDefer_none rfl) rfl (by kernel_rfl) (by kernel_rfl) (by kernel_rfl) (λ_ _ _ h=>h) ⟨Or.inl ⟨by kernel_rfl,?y2⟩,λ_=>rfl⟩ HSS.out (λhcl=>?_)
  case y2=>
   rintro q ⟨c1,c2,c3⟩
   go_simp
   exact Go.IntWalk.i64_in _ ⟨by omega,by omega⟩
  refine tq (i:=3) (v:=.pointer (some ⟨w.heap.size,0,none⟩)) (λhcl=>?_)
  refine tq (i:=4) (v:=.slice (some ⟨gb,go,none⟩) k c) (λhcl=>?_)
  refine tq (i:=5) (v:=.int .i64 (j:Int)) (λhcl=>?_)
  refine tq (i:=6) (v:=.pointer (some ⟨gb,go+j,none⟩)) (λhcl=>?_)
  refine tq (i:=7) (v:=.int .u8 y) (λhcl=>?_)
  refine anyS_take (i:=8) (v:=.int .i64 y) hw (by decide) hcl (noDefer_none rfl) rfl (by kernel_rfl) (by kernel_rfl) (by kernel_rfl) (λ_ _ _ h=>h) ⟨Or.inl ⟨by kernel_rfl,?y8⟩,λ_=>rfl⟩ HSS.out (λhcl=>?_)
  case y8=>
   rintro q ⟨c1,c2,c3⟩
   go_simp
   exact Go.IntWalk.i64_in _ ⟨by omega,by omega⟩
  refine anyS_take (i:=9) (v:=.int .i64 (mm*257+y)) hw (by decide) hcl (noDefer_none rfl) rfl (by kernel_rfl) (by kernel_rfl) (by kernel_rfl) (λ_ _ _ h=>h) ⟨Or.inl ⟨by kernel_rfl,?y9⟩,λ_=>rfl⟩ HSS.out (λhcl=>?_)
  case y9=>
   rintro q ⟨c1,c2,c3⟩
   go_simp
   exact Go.IntWalk.i64_in _ ⟨by omega,by omega⟩
  refine anyS_take (i:=10) (v:=.int .i64 (mm*257+y+1)) hw (by decide) hcl (noDefer_none rfl) rfl (by kernel_rfl) (by kernel_rfl) (by kernel_rfl) (λ_ _ _ h=>h) ⟨Or.inl ⟨by kernel_rfl,?y10⟩,λ_=>rfl⟩ HSS.out (λhcl=>?_)
  case y10=>
   rintro q ⟨c1,c2,c3⟩
   go_simp
   exact Go.IntWalk.i64_in _ ⟨by omega,by omega⟩
  refine anyS_take (i:=11) (v:=.int .i64 ((mm*257+y+1)%1000003)) hw (by decide) hcl (noDefer_none rfl) rfl (by kernel_rfl) (by kernel_rfl) (by kernel_rfl) (λ_ _ _ h=>h) ⟨Or.inl ⟨by kernel_rfl,?y11⟩,λ_=>rfl⟩ HSS.out (λhcl=>?_)
  case y11=>
   rintro q ⟨c1,c2,c3⟩
   go_simp
   exact Int.tmod_eq_emod_of_nonneg (by omega)
  refine tq (i:=12) (v:=.pointer (some ⟨w.heap.size,2,none⟩)) (λhcl=>?_)
  refine anyS_one (i:=13) (by kernel_rfl) (wpOpIn_step rfl (λK hK=>?_))
  go_simp
  refine hK _ _ ⟨Or.inl (by decide),?_⟩
  clear hK K
  refine anyS_done (by kernel_rfl) ?_ _
  clear hw hcl g2 f2 HSS
  have HB3:Hid (BT (wr.setCell ⟨w.heap.size,2,none⟩ (.int .i64 ((mm*257+y+1)%1000003))) w.heap.size #[.slice (some ⟨gb,go,none⟩) k c,.int .i64 0,.int .i64 (mixTo cT m0 (j+1)),.int .i64 0] 66):=by unfold Hid;rw[HSTP.out];exact HBJ.out.set 2 _
  have HO3:Hid (OwnBy w.heap.size (wr.setCell ⟨w.heap.size,2,none⟩ (.int .i64 ((mm*257+y+1)%1000003))) (.slice (some ⟨gb,go,none⟩) k c) cT):=row_setBT HOJ.out HBJ.out (by decide) _ _
  have HX3:Hid (Nx w (wr.setCell ⟨w.heap.size,2,none⟩ (.int .i64 ((mm*257+y+1)%1000003)))):=Below.setCell HXJ.out (Nat.le_refl _) _
  go_wp2
  go_roundw
  case rel=>exact⟨j+1,by omega,by go_num,HB3,HO3,Nx.drew HX3.out⟩
  case measure=>simp[intOf];omega
 have hjk:j=k:=by omega
 subst hjk
 have HSO:Hid (srcOf code=⟨cT,0,mixTo cT m0 j,if 8<1+(j:Int)/40 then 8 else 1+(j:Int)/40⟩):=by unfold Hid srcOf;rw[HCT.out,HN.out,HM0.out,HML.out]
 have m3:=HBJ.out.blk.cell (i:=3) rfl
 have f3:=HBJ.out.blk.frozen 3
 generalize mixTo cT m0 j=mm at *
 go_upto_region 12 with fail
 generalize hW3:wr.setCell ⟨w.heap.size,3,none⟩ (.int .i64 (1+(j:Int)/40))=w3
 have HB3:Hid (BT w3 w.heap.size #[.slice a j c,.int .i64 0,.int .i64 mm,.int .i64 (1+(j:Int)/40)] 66):=by unfold Hid;rw[<-hW3];exact HBJ.out.set 3 _
 have HO3:Hid (OwnBy w.heap.size w3 (.slice a j c) cT):=by unfold Hid;rw[<-hW3];exact row_setBT HOJ.out HBJ.out (by decide) _ _
 have HX3:Hid (Nx w w3):=by unfold Hid;rw[<-hW3];exact Below.setCell HXJ.out (Nat.le_refl _) _
 clear hW3 m3 f3 g0
 have m3:=HB3.out.blk.cell (i:=3) rfl
 have f3:=HB3.out.blk.frozen 3
 by_cases h8:8<1+(j:Int)/40
 ·rw[if_pos h8] at HSO
  go_wp2
  go_ret
  rw[HSO.out]
  exact⟨⟨_,rfl,⟨_,HB3.out.set 3 (.int .i64 8),row_setBT HO3.out HB3.out (by decide) _ _⟩,Nat.le_refl _⟩,Below.setCell HX3.out (Nat.le_refl _) _⟩
 ·rw[if_neg h8] at HSO
  go_wp2
  go_ret
  rw[HSO.out]
  exact⟨⟨_,rfl,⟨_,HB3.out,HO3.out⟩,Nat.le_refl _⟩,HX3.out⟩
theorem drawBuild_any (B:Nat)(v:Value)(code:List UInt8)(w:World)(h:HBy B w v code)(hl:code.length<=1048576) :
  Calls Tryz.prog 4 #[v] w λe w'=>(∃u,e=.returned u/\HRules w.heap.size w' u (anyR (srcOf code)))/\Nx w w':=by
 have HI:Hid (HBy B w v code):=h
 have HCL:Hid (code.length<=1048576):=hl
 obtain⟨va,vc,ev,-,-⟩:=id h
 generalize hcl:code.length=cl at ev hl
 clear hcl
 subst ev
 clear h hl
 go_enter Tryz.func4,Tryz.ntmps4
 go_wp2_with fail
 refine(l1Source_new B _ code w HI.out HCL.out).mono ?_
 rintro e w1 ⟨⟨b,rfl,hs,hb⟩,hx⟩
 have HS:Hid (HSrc w.heap.size w1 b (srcOf code)):=hs
 have HX:Hid (Nx w w1):=hx
 have hz:w.heap.size<=w1.heap.size:=hx.size
 clear hs hx
 go_wp2_with fail
 refine(drawAny_any w.heap.size b (srcOf code) w1 HS.out (srcOf_ok code)).mono ?_
 rintro e w2 ⟨⟨u,rfl,hr⟩,hc⟩
 have HRU:Hid (HRules w.heap.size w2 u (anyR (srcOf code))):=HSlice.mono hr hz (Nat.le_refl _) λx off hx1 hx2 i hi hcc=>by
  obtain⟨a,c,c0,c1,c2,hS,hcap⟩:=hcc
  exact⟨a,c,c0,c1,c2,hS.base hz,hcap⟩
 have HXX:Hid (Nx w w2):=Below.trans HX.out (hc.below HX.out.size (λx hx=>by have e':x=b:=hx;omega))
 obtain⟨ua,uc,eu,-,-⟩:=id hr
 generalize (anyR (srcOf code)).length=un at eu
 subst eu
 clear hr hc
 go_wp2
 go_ret
 exact⟨⟨_,rfl,HRU.out⟩,HXX.out⟩
end Go.Proofs.YtdpfdkihbgmapaaGreat
