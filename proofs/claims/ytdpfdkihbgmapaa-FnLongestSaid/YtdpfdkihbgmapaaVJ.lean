import Derived.Test.YtdpfdkihbgmapaaVH
import Derived.Test.YtdpfdkihbgmapaaVI
namespace Go.Proofs.Ytdpfdkihbgmapaa
open Go.RowKit Go.Sort
set_option linter.unusedVariables false
set_option maxRecDepth 1000000
set_option maxHeartbeats 16000000
def RM (A:Au)(P:List Int)(n i s q:Nat):Prop:=(s=0/\∀z,q<z->z<n->¬Wd A z <:+ P.take (i+1))\/(0<s/\s<n/\Wd A s <:+ P.take (i+1)/\∀z,s<z->z<n->¬Wd A z <:+ P.take (i+1))
theorem RM.start {A:Au}{P:List Int}{n i:Nat}:RM A P n i 0 (n-1):=Or.inl ⟨rfl,λz h1 h2=>by omega⟩
theorem RM.yes {A:Au}{P:List Int}{n i q:Nat}(h:RM A P n i 0 q)(h1:1<=q)(hq:q<n)(hs:Wd A q <:+ P.take (i+1)):RM A P n i q (q-1):=by
 rcases h with⟨_,h⟩|⟨h,_⟩
 ·exact Or.inr ⟨h1,hq,hs,h⟩
 ·exact absurd h (Nat.lt_irrefl _)
theorem RM.no {A:Au}{P:List Int}{n i q:Nat}(h:RM A P n i 0 q)(hs:¬Wd A q <:+ P.take (i+1)):RM A P n i 0 (q-1):=by
 rcases h with⟨_,h⟩|⟨h,_⟩
 ·refine Or.inl ⟨rfl,λz h1 h2=>?_⟩
  by_cases e:z=q
  ·subst e;exact hs
  ·exact h z (by omega) h2
 ·exact absurd h (Nat.lt_irrefl _)
theorem RM.last {A:Au}{P:List Int}{n i s q u:Nat}(h:RM A P n i s q)(hu:u<n/\Wd A u <:+ P.take (i+1)/\∀z,z<n->Wd A z <:+ P.take (i+1)->z<=u)(hq:q<n)(hz:¬(1<=q/\s=0)):s=u:=by
 obtain⟨h1,h2,h3⟩:=hu
 rcases h with⟨rfl,h⟩|⟨a,b,c,d⟩
 ·apply Decidable.byContradiction
  intro hn
  exact h u (by omega) h1 h2
 ·have:=h3 s b c
  apply Decidable.byContradiction
  intro hn
  exact d u (by omega) h1 h2
theorem lawLong_any (B:Nat)(v:Value)(code:List UInt8)(w:World)(h:HBy B w v code) :
  Calls Try.prog 3 #[v] w λe w'=>e=.returned (.bool true)/\Nx w w':=by
 obtain⟨auF,hAF⟩:=auF_ex
 have HAF:Hid (AuF auF):=hAF
 clear hAF
 have HI:Hid (HBy B w v code):=h
 obtain⟨va,vc,ev,-,-⟩:=id h
 generalize hcl:code.length=cl at *
 have HCL:Hid (code.length=cl):=hcl
 subst ev
 clear h hcl
 by_cases hbig:1048576<cl
 ·have hbig':(1048576:Int)<(cl:Int):=by omega
  go_enter Try.func3,Try.ntmps3
  go_wp2
  go_ret
  exact⟨rfl,Nx.refl _⟩
 have hbig':¬(1048576:Int)<(cl:Int):=by omega
 generalize hrd:runD auF code=x
 have HRD:Hid (runD auF code=x):=hrd
 obtain⟨A,P⟩:=x
 clear hrd
 obtain⟨n0,hn0⟩:∃n,A.pa.length=n:=⟨_,rfl⟩
 have HN0:Hid (A.pa.length=n0):=hn0
 clear hn0
 obtain⟨n1,hn1⟩:∃n,A.la.length=n:=⟨_,rfl⟩
 have HN1:Hid (A.la.length=n1):=hn1
 clear hn1
 obtain⟨n2,hn2⟩:∃n,A.fa.length=n:=⟨_,rfl⟩
 have HN2:Hid (A.fa.length=n2):=hn2
 clear hn2
 obtain⟨n3,hn3⟩:∃n,A.mu.length=n:=⟨_,rfl⟩
 have HN3:Hid (A.mu.length=n3):=hn3
 clear hn3
 obtain⟨n4,hn4⟩:∃n,A.bd.length=n:=⟨_,rfl⟩
 have HN4:Hid (A.bd.length=n4):=hn4
 clear hn4
 obtain⟨m,hm⟩:∃m,P.length=m:=⟨_,rfl⟩
 have HNP:Hid (P.length=m):=hm
 clear hm
 go_enter Try.func3,Try.ntmps3
 go_wp2_with fail
 refine(drawRun_any auF HAF.out B (.slice va cl vc) code w HI.out (by rw[HCL.out];omega)).mono ?_
 rintro e w1 ⟨⟨p0,p1,p2,p3,p4,vp,rfl,hA,hP,hsm,hln⟩,hx1⟩
 rw[HRD.out] at hA hP hsm hln
 replace hA:HA w.heap.size w1 p0 p1 p2 p3 p4 A:=hA
 replace hP:HInts w.heap.size w1 vp P:=hP
 have HSM:Hid (SmallA A):=hsm
 have HLN:Hid (P.length<=10001):=hln
 have HXa:Hid (Nx w w1):=hx1
 have HAa:Hid (HA w.heap.size w1 p0 p1 p2 p3 p4 A):=hA
 have HPa:Hid (HInts w.heap.size w1 vp P):=hP
 obtain⟨aa0,ca0,e0,-,-⟩:=hA.h0
 obtain⟨aa1,ca1,e1,-,-⟩:=hA.h1
 obtain⟨aa2,ca2,e2,-,-⟩:=hA.h2
 obtain⟨aa3,ca3,e3,-,-⟩:=hA.h3
 obtain⟨aa4,ca4,e4,-,-⟩:=hA.h4
 obtain⟨awa,cwa,ew,-,-⟩:=id hP
 rw[HN0.out] at e0
 rw[HN1.out] at e1
 rw[HN2.out] at e2
 rw[HN3.out] at e3
 rw[HN4.out] at e4
 rw[HNP.out] at ew
 subst e0 e1 e2 e3 e4 ew
 clear hA hP hsm hln hx1
 go_upto_region 4 with fail
 generalize hW:w1.alloc (.cells #[.slice aa0 n0 ca0,.slice aa1 n1 ca1,.slice aa2 n2 ca2,.slice aa3 n3 ca3,.slice aa4 n4 ca4] 26)=w2
 have HYa:Hid (Nx w1 w2):=by unfold Hid;rw[<-hW];exact box1 _ _
 have HBa:Hid (BT w2 w1.heap.size #[.slice aa0 n0 ca0,.slice aa1 n1 ca1,.slice aa2 n2 ca2,.slice aa3 n3 ca3,.slice aa4 n4 ca4] 26):=by unfold Hid;rw[<-hW];exact BT.new w1 _ _ _ rfl
 clear hW
 have HI2:Hid (HBy B w2 (.slice va cl vc) code):=(HI.out.next HXa.out).next HYa.out
 go_wp2_with fail
 refine(drawRun_any auF HAF.out B (.slice va cl vc) code w2 HI2.out (by rw[HCL.out];omega)).mono ?_
 rintro e w3 ⟨⟨p0,p1,p2,p3,p4,vp,rfl,hA,hP,hsm,hln⟩,hx1⟩
 rw[HRD.out] at hA hP hsm hln
 replace hA:HA w2.heap.size w3 p0 p1 p2 p3 p4 A:=hA
 replace hP:HInts w2.heap.size w3 vp P:=hP
 have HSM:Hid (SmallA A):=hsm
 have HLN:Hid (P.length<=10001):=hln
 have HXb:Hid (Nx w2 w3):=hx1
 have HAb:Hid (HA w2.heap.size w3 p0 p1 p2 p3 p4 A):=hA
 have HPb:Hid (HInts w2.heap.size w3 vp P):=hP
 obtain⟨ab0,cb0,e0,-,-⟩:=hA.h0
 obtain⟨ab1,cb1,e1,-,-⟩:=hA.h1
 obtain⟨ab2,cb2,e2,-,-⟩:=hA.h2
 obtain⟨ab3,cb3,e3,-,-⟩:=hA.h3
 obtain⟨ab4,cb4,e4,-,-⟩:=hA.h4
 obtain⟨awb,cwb,ew,-,-⟩:=id hP
 rw[HN0.out] at e0
 rw[HN1.out] at e1
 rw[HN2.out] at e2
 rw[HN3.out] at e3
 rw[HN4.out] at e4
 rw[HNP.out] at ew
 subst e0 e1 e2 e3 e4 ew
 clear hA hP hsm hln hx1
 go_upto_region 5 with fail
 generalize hW:w3.alloc (.cells #[.slice ab0 n0 cb0,.slice ab1 n1 cb1,.slice ab2 n2 cb2,.slice ab3 n3 cb3,.slice ab4 n4 cb4] 26)=w4
 have HYb:Hid (Nx w3 w4):=by unfold Hid;rw[<-hW];exact box1 _ _
 have HBb:Hid (BT w4 w3.heap.size #[.slice ab0 n0 cb0,.slice ab1 n1 cb1,.slice ab2 n2 cb2,.slice ab3 n3 cb3,.slice ab4 n4 cb4] 26):=by unfold Hid;rw[<-hW];exact BT.new w3 _ _ _ rfl
 clear hW
 have y0:w4.cell? ⟨w3.heap.size,0,none⟩=some (.slice ab0 n0 cb0):=HBb.out.blk.cell (i:=0) rfl
 have y1:w4.cell? ⟨w3.heap.size,1,none⟩=some (.slice ab1 n1 cb1):=HBb.out.blk.cell (i:=1) rfl
 have y2:w4.cell? ⟨w3.heap.size,2,none⟩=some (.slice ab2 n2 cb2):=HBb.out.blk.cell (i:=2) rfl
 have y3:w4.cell? ⟨w3.heap.size,3,none⟩=some (.slice ab3 n3 cb3):=HBb.out.blk.cell (i:=3) rfl
 have y4:w4.cell? ⟨w3.heap.size,4,none⟩=some (.slice ab4 n4 cb4):=HBb.out.blk.cell (i:=4) rfl
 go_wp2_with fail
 refine(implRun_any w2.heap.size (.slice ab0 n0 cb0) (.slice ab1 n1 cb1) (.slice ab2 n2 cb2) (.slice ab3 n3 cb3) (.slice ab4 n4 cb4) (.slice awb m cwb) A P w4 (HAb.out.next HYb.out) (HPb.out.next HYb.out) HSM.out (by have:=HLN.out;omega)).mono ?_
 rintro e w5 ⟨rfl,hx5⟩
 clear y0 y1 y2 y3 y4
 have HX24:Hid (Nx w2 w5):=(HXb.out.trans HYb.out).trans hx5
 have HB5:Hid (BT w5 w1.heap.size #[.slice aa0 n0 ca0,.slice aa1 n1 ca1,.slice aa2 n2 ca2,.slice aa3 n3 ca3,.slice aa4 n4 ca4] 26):=HBa.out.next HX24.out
 have HA5:Hid (HA w.heap.size w5 (.slice aa0 n0 ca0) (.slice aa1 n1 ca1) (.slice aa2 n2 ca2) (.slice aa3 n3 ca3) (.slice aa4 n4 ca4) A):=(HAa.out.next HYa.out).next HX24.out
 have HP5:Hid (HInts w.heap.size w5 (.slice awa m cwa) P):=(HPa.out.next HYa.out).next HX24.out
 have HX5:Hid (Nx w w5):=(HXa.out.trans HYa.out).trans HX24.out
 clear HX24 hx5 HBa HBb HAa HAb HPa HPb HXa HXb HYa HYb HI HI2 HRD HCL
 have HGV0:Hid (validS A=false\/10000<m->runA A P=-1):=by
  intro h
  unfold runA
  rw[if_neg]
  rintro⟨h1,h2⟩
  rcases h with h|h
  ·rw[h] at h1;cases h1
  ·rw[HNP.out] at h2;omega
 generalize hgv:runA A P=gv at *
 have HGV:Hid (runA A P=gv):=hgv
 clear hgv
 generalize hg3:w1.heap.size=g3 at *
 clear hg3
 have y0:w5.cell? ⟨g3,0,none⟩=some (.slice aa0 n0 ca0):=HB5.out.blk.cell (i:=0) rfl
 have y1:w5.cell? ⟨g3,1,none⟩=some (.slice aa1 n1 ca1):=HB5.out.blk.cell (i:=1) rfl
 have y2:w5.cell? ⟨g3,2,none⟩=some (.slice aa2 n2 ca2):=HB5.out.blk.cell (i:=2) rfl
 have y3:w5.cell? ⟨g3,3,none⟩=some (.slice aa3 n3 ca3):=HB5.out.blk.cell (i:=3) rfl
 have y4:w5.cell? ⟨g3,4,none⟩=some (.slice aa4 n4 ca4):=HB5.out.blk.cell (i:=4) rfl
 go_wp2_with fail
 refine(specValidA_any w.heap.size (.slice aa0 n0 ca0) (.slice aa1 n1 ca1) (.slice aa2 n2 ca2) (.slice aa3 n3 ca3) (.slice aa4 n4 ca4) A w5 HA5.out).mono ?_
 rintro e w6 ⟨rfl,hx6⟩
 clear y0 y1 y2 y3 y4
 have HB6:Hid (BT w6 g3 #[.slice aa0 n0 ca0,.slice aa1 n1 ca1,.slice aa2 n2 ca2,.slice aa3 n3 ca3,.slice aa4 n4 ca4] 26):=HB5.out.next hx6
 have HA6:=mkHid' (HA5.out.next hx6)
 have HP6:=mkHid' (HP5.out.next hx6)
 have HX4:Hid (Nx w w6):=HX5.out.trans hx6
 clear hx6 HB5 HA5 HP5 HX5
 generalize hvv:validS A=vv at *
 have HVV:Hid (validS A=vv):=hvv
 clear hvv
 cases vv with
 |false=>
  have HF:Hid ((gv==-1)=true):=by unfold Hid;rw[HGV0.out (Or.inl rfl)];rfl
  go_wp2
  go_ret
  exact⟨ret_bool HF.out,HX4.out⟩
 |true=>
 by_cases hm:10000<m
 ·have HF:Hid ((gv==-1)=true):=by unfold Hid;rw[HGV0.out (Or.inr hm)];rfl
  have hm':(10000:Int)<(m:Int):=by omega
  go_wp2
  go_ret
  exact⟨ret_bool HF.out,HX4.out⟩
 have hm':¬(10000:Int)<(m:Int):=by omega
 have HV:=mkHid' (ws_of HVV.out)
 obtain⟨n,hn⟩:∃n,n=n0:=⟨_,rfl⟩
 have e1:n=n1:=by have:=HV.out.2.1;have:=HN0.out;have:=HN1.out;omega
 have e2:n=n2:=by have:=HV.out.2.2.1;have:=HN0.out;have:=HN2.out;omega
 have e3:n=n3:=by have:=HV.out.1.m;have:=HN0.out;have:=HN3.out;omega
 have e4:n=n4:=by have:=HV.out.1.b;have:=HN0.out;have:=HN4.out;omega
 subst hn e1 e2 e3 e4
 have hn1:1<=n:=by have:=HV.out.2.2.2;have:=HN0.out;omega
 have hnn:n<=2000:=by have:=HV.out.1.n;have:=HN0.out;omega
 have HPL:Hid (P.length<=10000):=by unfold Hid;rw[HNP.out];omega
 clear HGV0 HSM HLN HV HN2
 have hA:=HA6.out
 obtain⟨z0,q0,hz,-,hk0⟩:=hA.h0
 rw[HN0.out] at hz hk0
 cases hz
 obtain⟨b0,o0,rfl,-,hb0,hc0⟩:=hk0 (by omega)
 have HC0:Hid (∀i,i<n->w6.cell? ⟨b0,o0+i,none⟩=some (.int .i64 (iat A.pa i))):=hc0
 clear hc0 hk0
 obtain⟨z1,q1,hz,-,hk1⟩:=hA.h1
 rw[HN1.out] at hz hk1
 cases hz
 obtain⟨b1,o1,rfl,-,hb1,hc1⟩:=hk1 (by omega)
 have HC1:Hid (∀i,i<n->w6.cell? ⟨b1,o1+i,none⟩=some (.int .i64 (iat A.la i))):=hc1
 clear hc1 hk1
 obtain⟨z3,q3,hz,-,hk3⟩:=hA.h3
 rw[HN3.out] at hz hk3
 cases hz
 obtain⟨b3,o3,rfl,-,hb3,hc3⟩:=hk3 (by omega)
 have HC3:Hid (∀i,i<n->w6.cell? ⟨b3,o3+i,none⟩=some (.int .i64 (iat A.mu i))):=hc3
 clear hc3 hk3
 obtain⟨z4,q4,hz,-,hk4⟩:=hA.h4
 rw[HN4.out] at hz hk4
 cases hz
 obtain⟨b4,o4,rfl,-,hb4,hc4⟩:=hk4 (by omega)
 have HC4:Hid (∀i,i<n->w6.cell? ⟨b4,o4+i,none⟩=some (.bool (bat A.bd i))):=hc4
 clear hc4 hk4
 clear hA
 have hg3:g3<w6.heap.size:=HB6.out.lt
 have HBx:Hid (∀i v,(#[.slice (some ⟨b0,o0,none⟩) n ca0,.slice (some ⟨b1,o1,none⟩) n ca1,.slice aa2 n ca2,.slice (some ⟨b3,o3,none⟩) n ca3,.slice (some ⟨b4,o4,none⟩) n ca4]:Array Value)[i]?=some v->w6.cell? ⟨g3,i,none⟩=some v):=λi v hv=>HB6.out.blk.cell (i:=i) hv
 have hP:=HP6.out
 obtain⟨zp,qp,hz,-,hkp⟩:=hP
 rw[HNP.out] at hz hkp
 cases hz
 have HKP:Hid (0<m->∃b off,awa=some ⟨b,off,none⟩/\w.heap.size<=b/\b<w6.heap.size/\∀i,i<m->w6.cell? ⟨b,off+i,none⟩=some (.int .i64 (iat P i))):=hkp
 clear hkp HA6 HP6 HB6
 go_wp2
 go_loopw [8,9] (λs8 s9 wr=>∃v i:Nat,s8=.int .i64 v/\s9=.int .i64 i/\v<n/\i<=m/\Hid (RI A P i v)/\Hid (Nx w6 wr)) (λ_ s9 _=>m-(intOf s9).toNat)
 case atStart=>exact⟨0,0,rfl,rfl,by omega,by omega,RI.start HVV.out,Nx.refl _⟩
 obtain⟨v,i,rfl,rfl,hvn,him,HR,HN⟩:=hrel
 by_cases hlt:i<m
 ·have hlt':(i:Int)<(m:Int):=by omega
  have hvn':(v:Int)<(n:Int):=by omega
  obtain⟨bp,op,rfl,-,hbp,hcp⟩:=HKP.out (by omega)
  have HCP:Hid (∀i,i<m->w6.cell? ⟨bp,op+i,none⟩=some (.int .i64 (iat P i))):=hcp
  clear hcp
  have xi:=cell_next HN.out hbp (HCP.out i hlt)
  have x3:wr.cell? ⟨g3,3,none⟩=some (.slice (some ⟨b3,o3,none⟩) n ca3):=cell_next HN.out hg3 (HBx.out 3 _ rfl)
  have xm:=cell_next HN.out hb3 (HC3.out v hvn)
  by_cases h1:iat P i<0
  ·have d1:decide (iat P i<0)=true:=by simpa using h1
   have HF:Hid ((gv==-1)=true):=by unfold Hid;rw[<-HGV.out,run_bad HVV.out HPL.out (by rw[HNP.out];exact hlt) (HR.out.fail HVV.out (Or.inl h1))];rfl
   go_wp2
   go_quiet (fail)
   go_wp2
   go_ret
   exact⟨ret_bool HF.out,HX4.out.trans (HN.out.trans ⟨rfl,rfl,rfl,Nat.le_refl _,λ_ _=>rfl⟩)⟩
  by_cases h2:4000<=iat P i
  ·have d1:decide (iat P i<0)=false:=by simpa using h1
   have d2:decide (4000<=iat P i)=true:=by simpa using h2
   have HF:Hid ((gv==-1)=true):=by unfold Hid;rw[<-HGV.out,run_bad HVV.out HPL.out (by rw[HNP.out];exact hlt) (HR.out.fail HVV.out (Or.inr (Or.inl h2)))];rfl
   go_wp2
   go_quiet (fail)
   go_wp2
   go_ret
   exact⟨ret_bool HF.out,HX4.out.trans (HN.out.trans ⟨rfl,rfl,rfl,Nat.le_refl _,λ_ _=>rfl⟩)⟩
  have d1:decide (iat P i<0)=false:=by simpa using h1
  have d2:decide (4000<=iat P i)=false:=by simpa using h2
  by_cases h3:iat A.mu v≠-1/\iat A.mu v≠iat P i
  ·have d3:(iat A.mu v !=-1)=true:=by simpa using h3.1
   have d4:(iat A.mu v !=iat P i)=true:=by simpa using h3.2
   have HF:Hid ((gv==-1)=true):=by unfold Hid;rw[<-HGV.out,run_bad HVV.out HPL.out (by rw[HNP.out];exact hlt) (HR.out.fail HVV.out (Or.inr (Or.inr h3)))];rfl
   go_wp2
   go_quiet (fail)
   go_wp2
   go_ret
   exact⟨ret_bool HF.out,HX4.out.trans (HN.out.trans ⟨rfl,rfl,rfl,Nat.le_refl _,λ_ _=>rfl⟩)⟩
  have HNF:Hid (¬(iat P i<0\/4000<=iat P i\/(iat A.mu v≠-1/\iat A.mu v≠iat P i))):=by
   rintro(h|h|h)
   ·exact h1 h
   ·exact h2 h
   ·exact h3 h
  have x0:wr.cell? ⟨g3,0,none⟩=some (.slice (some ⟨b0,o0,none⟩) n ca0):=cell_next HN.out hg3 (HBx.out 0 _ rfl)
  have wn:IntKind.i64.wrap ((n:Int)-1)=(n:Int)-1:=by rw[IntKind.wrap_i64];omega
  go_wp2
  go_cut [76] from 45 to 75 (λs wc=>s=.bool false/\Hid (Nx w6 wc))
  case first=>
   by_cases h4:iat A.mu v=-1
   ·have d3:(iat A.mu v !=-1)=false:=by simp[h4]
    clear h1 h2 h3 h4
    go_quiet (fail)
    go_wp2
    go_meet
    exact⟨rfl,HN.out.trans ⟨rfl,rfl,rfl,Nat.le_refl _,λ_ _=>rfl⟩⟩
   ·have d3:(iat A.mu v !=-1)=true:=by simpa using h4
    have h5:iat A.mu v=iat P i:=Decidable.byContradiction λh=>h3 ⟨h4,h⟩
    have d4:(iat A.mu v !=iat P i)=false:=by simp[h5]
    clear h1 h2 h3 h4 h5
    go_quiet (fail)
    go_wp2
    go_meet
    exact⟨rfl,HN.out.trans ⟨rfl,rfl,rfl,Nat.le_refl _,λ_ _=>rfl⟩⟩
  case rest=>
  obtain⟨rfl,HNc⟩:=hcut
  clear h1 h2 h3 d1 d2 xi x3 xm x0 HN
  obtain⟨wr,hwr⟩:∃wr:World,wr=wc:=⟨_,rfl⟩
  subst hwr
  have HN:=mkHid' HNc.out
  clear HNc
  have x0:wr.cell? ⟨g3,0,none⟩=some (.slice (some ⟨b0,o0,none⟩) n ca0):=cell_next HN.out hg3 (HBx.out 0 _ rfl)
  go_wp2
  go_loopw [8,10] (λs8 s10 wr=>∃s q:Nat,s8=.int .i64 s/\s10=.int .i64 q/\q<n/\Hid (RM A P n i s q)/\Hid (Nx w6 wr)) (λs8 s10 _=>(intOf s10).toNat)
  case atStart=>exact⟨0,n-1,rfl,by first|rfl|(congr 1;omega)|go_num,by omega,RM.start,HN.out.trans ⟨rfl,rfl,rfl,Nat.le_refl _,λ_ _=>rfl⟩⟩
  clear HN
  obtain⟨s,z,rfl,rfl,hzn,HR2,HN⟩:=hrel
  by_cases hz:1<=z/\s=0
  ·obtain⟨hz1,rfl⟩:=hz
   rw[show((0:Nat):Int)=0 from rfl]
   have hz':(0:Int)<(z:Int):=by omega
   have dz:decide (0<z)=true:=by simp;omega
   have dz':decide ((0:Int)<(z:Int))=true:=by simp;omega
   have HUp0:Hid (Up A P i z z (i+1)):=Up.start (by rw[HNP.out];exact hlt)
   obtain⟨wo,hwo⟩:∃wo:World,wo=wr:=⟨_,rfl⟩
   rw[<-hwo] at HN
   rw[<-hwo]
   clear hwo
   go_wp2
   go_loopw [11,12] (λs11 s12 wr=>∃(y k:Nat) (t:Int),s11=.int .i64 y/\s12=.int .i64 t/\t+1=(k:Int)/\y<n/\k<=i+1/\Hid (Up A P i z y k)/\Hid (Nx w6 wr)) (λs11 _ _=>(intOf s11).toNat)
   case atStart=>exact⟨z,i+1,(i:Int),rfl,rfl,by omega,hzn,by omega,HUp0,HN⟩
   clear HN HUp0
   obtain⟨y,k,t,rfl,rfl,htk,hyn,hki,HU,HN⟩:=hrel
   by_cases hy:1<=y
   ·have d1:decide (0<y)=true:=by simp;omega
    have d1':decide ((0:Int)<(y:Int))=true:=by simp;omega
    have hy':(0:Int)<(y:Int):=by omega
    have hyn':(y:Int)<(n:Int):=by omega
    by_cases ht:t<0
    ·have d2:decide (0<=t)=false:=by simp;omega
     have HS3:Hid (¬Wd A z <:+ P.take (i+1)):=HU.out.no HVV.out (by rw[HNP.out];exact hlt) hki hy (by rw[HN0.out];exact hyn) (λh=>by have:=h.1;omega)
     have hk0:k=0:=by omega
     clear htk hki hk0
     have d0:((y:Int)==0)=false:=by simp;omega
     have HS2:Hid (RM A P n i 0 (z-1)):=RM.no HR2.out HS3.out
     clear HU HR2 HS3
     go_wp2
     go_quiet (fail)
     go_wp2
     go_roundw
     case rel=>exact⟨0,z-1,rfl,by first|rfl|(congr 1;omega)|go_num,by omega,HS2,HN.out.trans ⟨rfl,rfl,rfl,Nat.le_refl _,λ_ _=>rfl⟩⟩
     case measure=>simp[intOf];omega
    obtain⟨t',rfl⟩:∃t':Nat,t=(t':Int):=⟨t.toNat,by omega⟩
    have ek:k=t'+1:=by omega
    subst ek
    have d2:decide (0<=(t':Int))=true:=by simp
    have ht':t'<m:=by omega
    have ht'':(t':Int)<(m:Int):=by omega
    have ht0:(0:Int)<=(t':Int):=by omega
    have hy0:(0:Int)<=(y:Int):=by omega
    have x1:wr.cell? ⟨g3,1,none⟩=some (.slice (some ⟨b1,o1,none⟩) n ca1):=cell_next HN.out hg3 (HBx.out 1 _ rfl)
    have xy:=cell_next HN.out hb1 (HC1.out y hyn)
    have xt:=cell_next HN.out hbp (HCP.out t' ht')
    by_cases he:iat A.la y=iat P t'
    ·have d3:(iat A.la y==iat P t')=true:=by simpa using he
     obtain⟨u,hu,huy⟩:=Up.par (A:=A) (y:=y) HVV.out hy (by rw[HN0.out];exact hyn)
     have HU2:Hid (Up A P i z u t'):=HU.out.go HVV.out (by rw[HNP.out];exact hlt) (by omega) hy (by rw[HN0.out];exact hyn) hu he
     have x0:wr.cell? ⟨g3,0,none⟩=some (.slice (some ⟨b0,o0,none⟩) n ca0):=cell_next HN.out hg3 (HBx.out 0 _ rfl)
     have xp:=cell_next HN.out hb0 (HC0.out y hyn)
     rw[hu] at xp
     have wt:IntKind.i64.wrap ((t':Int)-1)=(t':Int)-1:=by rw[IntKind.wrap_i64];omega
     clear he hu HU
     go_wp2
     go_quiet (fail)
     go_wp2
     go_roundw
     case rel=>exact⟨u,t',(t':Int)-1,rfl,rfl,by omega,by omega,by omega,HU2,HN.out.trans ⟨rfl,rfl,rfl,Nat.le_refl _,λ_ _=>rfl⟩⟩
     case measure=>simp[intOf];omega
    have d3:(iat A.la y==iat P t')=false:=by simpa using he
    have HS3:Hid (¬Wd A z <:+ P.take (i+1)):=HU.out.no HVV.out (by rw[HNP.out];exact hlt) hki hy (by rw[HN0.out];exact hyn) (λh=>he (by have:=h.2;simpa using this))
    clear he
    have d0:((y:Int)==0)=false:=by simp;omega
    have HS2:Hid (RM A P n i 0 (z-1)):=RM.no HR2.out HS3.out
    clear HU HR2 HS3
    go_wp2
    go_quiet (fail)
    go_wp2
    go_roundw
    case rel=>exact⟨0,z-1,rfl,by first|rfl|(congr 1;omega)|go_num,by omega,HS2,HN.out.trans ⟨rfl,rfl,rfl,Nat.le_refl _,λ_ _=>rfl⟩⟩
    case measure=>simp[intOf];omega
   have ey:y=0:=by omega
   subst ey
   have HS3:Hid (Wd A z <:+ P.take (i+1)):=HU.out.yes
   have HS2:Hid (RM A P n i z (z-1)):=RM.yes HR2.out hz1 hzn HS3.out
   clear HU HR2 HS3
   go_wp2
   go_quiet (fail)
   go_wp2
   go_roundw
   case rel=>exact⟨z,z-1,rfl,by first|rfl|(congr 1;omega)|go_num,by omega,HS2,HN.out.trans ⟨rfl,rfl,rfl,Nat.le_refl _,λ_ _=>rfl⟩⟩
   case measure=>simp[intOf];omega
  obtain⟨u,hu⟩:=lw_some HVV.out (P.take (i+1))
  have HT:=mkHid' (lw_top (ws_same HVV.out).2 hu)
  have es:s=u:=RM.last HR2.out (by have h:=HT.out;rw[HN0.out] at h;exact h) hzn (by omega)
  subst es
  have HNX:=mkHid' (HR.out.next HVV.out (by rw[HNP.out];exact hlt) HNF.out hu)
  have hsn:s<n:=by have:=HNX.out.1;rw[HN0.out] at this;exact this
  have hsn':(s:Int)<(n:Int):=by omega
  have x4:wr.cell? ⟨g3,4,none⟩=some (.slice (some ⟨b4,o4,none⟩) n ca4):=cell_next HN.out hg3 (HBx.out 4 _ rfl)
  have xb:=cell_next HN.out hb4 (HC4.out s hsn)
  clear hu
  cases hbd:bat A.bd s with
  |true=>
   rw[hbd] at xb
   have HF:Hid ((gv==-1)=true):=by unfold Hid;rw[<-HGV.out,run_bad HVV.out HPL.out (by rw[HNP.out];exact hlt) (HNX.out.2.1 hbd)];rfl
   clear hbd
   by_cases hz0:1<=z
   ·have dz:decide (0<z)=true:=by simp;omega
    have dz':(0:Int)<(z:Int):=by omega
    have ds:((s:Int)==0)=false:=by simp;omega
    go_wp2
    go_ret
    exact⟨ret_bool HF.out,HX4.out.trans HN.out⟩
   ·have ez:z=0:=by omega
    subst ez
    go_wp2
    go_ret
    exact⟨ret_bool HF.out,HX4.out.trans HN.out⟩
  |false=>
   rw[hbd] at xb
   have HRn:Hid (RI A P (i+1) s):=HNX.out.2.2 hbd
   clear hbd
   by_cases hz0:1<=z
   ·have dz:decide (0<z)=true:=by simp;omega
    have dz':(0:Int)<(z:Int):=by omega
    have ds:((s:Int)==0)=false:=by simp;omega
    go_wp2
    go_roundw
    case rel=>exact⟨s,i+1,rfl,by go_num,hsn,by omega,HRn,HN⟩
    case measure=>simp[intOf];omega
   ·have ez:z=0:=by omega
    subst ez
    go_wp2
    go_roundw
    case rel=>exact⟨s,i+1,rfl,by go_num,hsn,by omega,HRn,HN⟩
    case measure=>simp[intOf];omega
 have e:i=m:=by omega
 subst e
 have HF:Hid ((gv==(v:Int))=true):=by
  unfold Hid
  rw[<-HGV.out,run_good HVV.out HPL.out (by rw[HNP.out];exact HR.out)]
  simp
 go_wp2
 go_ret
 exact⟨ret_bool HF.out,HX4.out.trans HN.out⟩
end Go.Proofs.Ytdpfdkihbgmapaa
