import Derived.Test.YthhkjbfkgdlkmaaGreatDoorRC
namespace Go.Proofs.YthhkjbfkgdlkmaaGreatDoor
open Go.RowKit Go.Sort
set_option linter.unusedVariables false
set_option maxRecDepth 1000000
set_option maxHeartbeats 16000000
def scW (z:Int)(u:Nat->Value):Nat->Value
 |0=>.int .i64 (z)
 |1=>.bool ((z+1)%3==0)
 |q=>u q
theorem RK.markW {w:World}{g n:Nat}{V:Nat->Nat->Value}(h:RK 45 4 w g n V){i:Nat}(hi:i<n)(z:Int) :
  RK 45 4 ((w.setCell ⟨g,i*4,none⟩ (.int .i64 (z))).setCell ⟨g,i*4+1,none⟩ (.bool ((z+1)%3==0))) g n (λi' j'=>if i'=i then scW z (V i') j' else V i' j'):=by
 have h':=((h.set hi (j:=0) (by omega) (.int .i64 (z))).set hi (j:=1) (by omega) (.bool ((z+1)%3==0)))
 refine RK.congr h' λi' j' _ hj'=>?_
 by_cases e:i'=i
 ·subst e
  rcases (show j'=0\/j'=1\/j'=2\/j'=3 by omega) with rfl|rfl|rfl|rfl<;>simp[scW]
 ·simp[e]
theorem chgW {w:World}{g i:Nat}(z:Int):Chg (λx=>x=g) w ((w.setCell ⟨g,i*4,none⟩ (.int .i64 (z))).setCell ⟨g,i*4+1,none⟩ (.bool ((z+1)%3==0))):=((Chg.set (S:=λx=>x=g) g _ _ rfl).trans (Chg.set (S:=λx=>x=g) g _ _ rfl))
def kW (k:Int)(L:Nat->Nat):Nat->Int
 |0=>k
 |i+1=>kW k L i+2+(L (2*i)+L (2*i+1))
theorem kW_le {k:Int}{L:Nat->Nat}{n:Nat}(hL:∀i,i<2*n->L i<=1000000):∀i,i<=n->k<=kW k L i/\kW k L i<=k+2000010*i
 |0,_=>by simp[kW]
 |i+1,h=>by
  have h1:=kW_le (k:=k) hL i (by omega)
  have h2:=hL (2*i) (by omega)
  have h3:=hL (2*i+1) (by omega)
  unfold kW
  omega
def bW (k:Int)(L:Nat->Nat)(i:Nat):Int:=kW k L (i/2)+2+(if i%2=0 then 0 else (L (i-1):Int))
theorem bW_0 (k:Int)(L:Nat->Nat)(j:Nat):bW k L (2*j)=kW k L j+2:=by
 unfold bW
 rw[show 2*j/2=j by omega,if_pos (by omega)];omega
theorem bW_1 (k:Int)(L:Nat->Nat)(j:Nat):bW k L (2*j+1)=kW k L j+2+L (2*j):=by
 unfold bW
 rw[show(2*j+1)/2=j by omega,if_neg (by omega)];rfl
def uvW (vs:Nat->Value)(i q:Nat):Value:=if q=2 then vs (2*i) else vs (2*i+1)
def mkW (k:Int)(L:Nat->Nat)(vs:Nat->Value)(i q:Nat):Value:=scW (kW k L i) (uvW vs i) q
theorem markWays_any (v:Value)(n:Nat)(vs:Nat->Value)(L:Nat->Nat)(V:Nat->Nat->Value)(k:Int)(w:World)(h0:SK 45 4 w v n V)(hu:∀i,i<n->∀q,2<=q->q<4->V i q=uvW vs i q)(hS:Sep v (2*n) vs)(hv:∀i,i<2*n->∃F,SI w (vs i) (L i) F)(hn:n<=1000000)(hL:∀i,i<2*n->L i<=1000000)(hk0:0<=k)(hk1:k<=1000000000000000) :
  Calls Tryz.prog 42 #[v,.int .i64 k] w λe w'=>e=.returned (.int .i64 (kW k L n))/\SK 45 4 w' v n (mkW k L vs)/\(∀i,i<2*n->SI w' (vs i) (L i) (λq=>bW k L i+q))/\Chg (inS v (2*n) vs) w w':=by
 have HS:Hid (Sep v (2*n) vs):=hS
 have HL:Hid (∀i,i<2*n->L i<=1000000):=hL
 have HV:Hid (∀i,i<2*n->∃F,SI w (vs i) (L i) F):=hv
 have H0:Hid (SK 45 4 w v n V):=h0
 have HU:Hid (∀i,i<n->∀q,2<=q->q<4->V i q=uvW vs i q):=hu
 obtain⟨a,c,rfl,_⟩:=h0
 clear hS hL hv hu
 go_enter Tryz.func42,Tryz.ntmps42
 go_wp2
 go_loopw [1,5] (λm i wr=>∃j:Nat,j<=n/\i=.int .i64 j/\m=.int .i64 (kW k L j)/\Hid (∃V',SK 45 4 wr (.slice a n c) n V'/\(∀i,i<n->∀q,2<=q->q<4->V' i q=uvW vs i q)/\∀i,i<j->∀q,q<4->V' i q=mkW k L vs i q)/\Hid (∀i,i<2*n->∃F',SI wr (vs i) (L i) F'/\(i<2*j->∀q:Nat,q<L i->F' q=bW k L i+q))/\Hid (Chg (inS (.slice a n c) (2*n) vs) w wr)) (λ_ i _=>n-(intOf i).toNat)
 case atStart=>exact⟨0,Nat.zero_le _,rfl,rfl,⟨V,H0.out,HU.out,λi hi=>absurd hi (Nat.not_lt_zero _)⟩,λi hi=>by obtain⟨F,hF⟩:=HV.out i hi;exact⟨F,hF,λh=>absurd h (by omega)⟩,Chg.nx (Below.refl _ _)⟩
 obtain⟨j,hjn,rfl,rfl,HR,HI,HC⟩:=hrel
 clear H0 HV HU
 have hkb:=kW_le (k:=k) HL.out j hjn
 by_cases hlt:j<n
 ·obtain⟨V',⟨a',c',e0,hk⟩,hU',hV'⟩:=HR.out
  simp only[Value.slice.injEq,true_and] at e0
  obtain⟨rfl,rfl⟩:=e0
  obtain⟨g,rfl,hr⟩:=hk (by omega)
  have c0:=hr.cell hlt (j:=0) (by omega)
  have c1:=hr.cell hlt (j:=1) (by omega)
  have c2:=hr.cell hlt (j:=2) (by omega)
  have c3:=hr.cell hlt (j:=3) (by omega)
  have f0:=hr.frozen (j*4)
  have f1:=hr.frozen (j*4+1)
  rw[Nat.add_zero] at c0
  have u0:V' j 2=vs (2*j):=hU' j hlt 2 (by decide) (by decide)
  obtain⟨F0,hF0,_⟩:=HI.out (2*j) (by omega)
  have HF0:Hid (SI wr (vs (2*j)) (L (2*j)) F0):=hF0
  obtain⟨sa0,sc0,hvs0,_⟩:=hF0
  have HVS0:Hid (vs (2*j)=.slice sa0 (L (2*j)) sc0):=hvs0
  rw[u0,hvs0] at c2
  have hl0:=HL.out (2*j) (by omega)
  have u1:V' j 3=vs (2*j+1):=hU' j hlt 3 (by decide) (by decide)
  obtain⟨F1,hF1,_⟩:=HI.out (2*j+1) (by omega)
  have HF1:Hid (SI wr (vs (2*j+1)) (L (2*j+1)) F1):=hF1
  obtain⟨sa1,sc1,hvs1,_⟩:=hF1
  have HVS1:Hid (vs (2*j+1)=.slice sa1 (L (2*j+1)) sc1):=hvs1
  rw[u1,hvs1] at c3
  have hl1:=HL.out (2*j+1) (by omega)
  have hlt':(j:Int)<n:=by omega
  have HRR:Hid (RK 45 4 wr g n V'):=hr
  have HVV:Hid (∀i,i<j->∀q,q<4->V' i q=mkW k L vs i q):=hV'
  have HUU:Hid (∀i,i<n->∀q,2<=q->q<4->V' i q=uvW vs i q):=hU'
  have HR5:=mkHid' (hr.markW hlt (kW k L j))
  have HC5:Hid (Chg (λx=>x=g) wr ((wr.setCell ⟨g,j*4,none⟩ (.int .i64 ((kW k L j)))).setCell ⟨g,j*4+1,none⟩ (.bool (((kW k L j)+1)%3==0)))):=chgW _
  generalize hKJ:kW k L j=kj at *
  have HKJ:Hid (kW k L j=kj):=hKJ
  have hmod:¬(3:Int)=0:=by omega
  clear hk hr hV' hU' hKJ hvs0 u0 hvs1 u1
  generalize V' j 0=g0 at c0
  generalize V' j 1=g1 at c1
  go_wp2_with fail
  generalize hW5:((wr.setCell ⟨g,j*4,none⟩ (.int .i64 (kj))).setCell ⟨g,j*4+1,none⟩ (.bool ((kj+1)%3==0)))=w5 at *
  have HNG:Hid (∀i,i<2*n->(vs i).ownBlock≠some g):=λi hi e=>HS.out.row i g hi e rfl
  have sk:∀{i:Nat}{F:Nat->Int},i<2*n->SI wr (vs i) (L i) F->SI w5 (vs i) (L i) F:=λ{i F} hi h=>h.keep2 (λb hbl hb=>HC5.out.block b hbl (λe=>HNG.out i hi (by rw[hb,e])))
  have HG0:Hid (SI w5 (vs (2*j)) (L (2*j)) F0):=sk (by omega) HF0.out
  have HG1:Hid (SI w5 (vs (2*j+1)) (L (2*j+1)) F1):=sk (by omega) HF1.out
  have HI5:Hid (∀i,i<2*n->∃F',SI w5 (vs i) (L i) F'/\(i<2*j->∀q:Nat,q<L i->F' q=bW k L i+q)):=λi hi=>by
   obtain⟨F,h1,h2⟩:=HI.out i hi
   exact⟨F,sk hi h1,h2⟩
  have HCC5:Hid (Chg (inS (.slice (some ⟨g,0,none⟩) n c) (2*n) vs) w w5):=HC.out.trans (HC5.out.mono (λb e=>Or.inl (by rw[e];rfl)))
  clear sk hW5 c0 c1 c2 c3 f0 f1 HI HC HC5 HF0 HF1
  refine(markI_any (.slice sa0 (L (2*j)) sc0) (L (2*j)) F0 w5 (kj+1+1) (by have:=HG0.out;rw[HVS0.out] at this;exact this) (by omega) (by omega) (by omega)).mono ?_
  rintro e w6 ⟨rfl,hs6,ho6⟩
  have HO6:Hid (Only (vs (2*j)).ownBlock w5 w6):=by unfold Hid;rw[HVS0.out];exact ho6
  have HS6:Hid (SI w6 (vs (2*j)) (L (2*j)) (λi=>kj+1+1+i)):=by unfold Hid;rw[HVS0.out];exact hs6
  have HR6:=mkHid' (HR5.out.keep (HO6.out.block g HR5.out.lt (λe=>HNG.out (2*j) (by omega) e.symm)))
  have HI6:Hid (∀i,i<2*n->∃F',SI w6 (vs i) (L i) F'/\(i<2*j+1->∀q:Nat,q<L i->F' q=bW k L i+q)):=λi hi=>by
   by_cases e:i=2*j
   ·subst e
    exact⟨_,HS6.out,λ_ q _=>by rw[bW_0,HKJ.out];omega⟩
   ·obtain⟨F,h1,h2⟩:=HI5.out i hi
    exact⟨F,h1.keep2 (λb hbl hb=>HO6.out.block b hbl (λe'=>HS.out.two i (2*j) b hi (by omega) e hb e'.symm)),λh=>h2 (by omega)⟩
  have HCC6:Hid (Chg (inS (.slice (some ⟨g,0,none⟩) n c) (2*n) vs) w w6):=HCC5.out.trans ⟨HO6.out.os,HO6.out.tape,HO6.out.output,HO6.out.size,λb hb hn=>HO6.out.block b hb (λe=>hn (Or.inr ⟨2*j,by omega,e⟩))⟩
  have HG1:Hid (SI w6 (vs (2*j+1)) (L (2*j+1)) F1):=HG1.out.keep2 (λb hbl hb=>HO6.out.block b hbl (λe'=>HS.out.two (2*j+1) (2*j) b (by omega) (by omega) (by omega) hb e'.symm))
  clear hs6 ho6 HO6 HS6 HI5 HCC5 HR5
  have cc1:=HR6.out.cell hlt (j:=3) (by omega)
  rw[if_pos rfl,show scW kj (V' j) 3=V' j 3 from rfl,HUU.out j hlt 3 (by decide) (by decide),show uvW vs j 3=vs (2*j+1) from rfl,HVS1.out] at cc1
  go_wp2_with fail
  refine(markI_any (.slice sa1 (L (2*j+1)) sc1) (L (2*j+1)) F1 w6 (kj+1+1+L (2*j)) (by have:=HG1.out;rw[HVS1.out] at this;exact this) (by omega) (by omega) (by omega)).mono ?_
  rintro e w7 ⟨rfl,hs6,ho6⟩
  have HO6:Hid (Only (vs (2*j+1)).ownBlock w6 w7):=by unfold Hid;rw[HVS1.out];exact ho6
  have HS6:Hid (SI w7 (vs (2*j+1)) (L (2*j+1)) (λi=>kj+1+1+L (2*j)+i)):=by unfold Hid;rw[HVS1.out];exact hs6
  have HR7:=mkHid' (HR6.out.keep (HO6.out.block g HR6.out.lt (λe=>HNG.out (2*j+1) (by omega) e.symm)))
  have HI7:Hid (∀i,i<2*n->∃F',SI w7 (vs i) (L i) F'/\(i<2*j+2->∀q:Nat,q<L i->F' q=bW k L i+q)):=λi hi=>by
   by_cases e:i=2*j+1
   ·subst e
    exact⟨_,HS6.out,λ_ q _=>by rw[bW_1,HKJ.out];omega⟩
   ·obtain⟨F,h1,h2⟩:=HI6.out i hi
    exact⟨F,h1.keep2 (λb hbl hb=>HO6.out.block b hbl (λe'=>HS.out.two i (2*j+1) b hi (by omega) e hb e'.symm)),λh=>h2 (by omega)⟩
  have HCC7:Hid (Chg (inS (.slice (some ⟨g,0,none⟩) n c) (2*n) vs) w w7):=HCC6.out.trans ⟨HO6.out.os,HO6.out.tape,HO6.out.output,HO6.out.size,λb hb hn=>HO6.out.block b hb (λe=>hn (Or.inr ⟨2*j+1,by omega,e⟩))⟩
  clear hs6 ho6 HO6 HS6 HI6 HCC6 HR6 cc1
  have HKN:Hid (kW k L (j+1)=kj+1+1+L (2*j)+L (2*j+1)):=by unfold Hid;show kW k L j+2+((L (2*j):Int)+(L (2*j+1):Int))=_;rw[HKJ.out];omega
  have HRE:Hid (∃V',SK 45 4 w7 (.slice (some ⟨g,0,none⟩) n c) n V'/\(∀i,i<n->∀q,2<=q->q<4->V' i q=uvW vs i q)/\∀i,i<j+1->∀q,q<4->V' i q=mkW k L vs i q):=by
   refine⟨_,⟨_,_,rfl,λ_=>⟨g,rfl,HR7.out⟩⟩,λi hi q hq1 hq2=>?_,λi hi q hq=>?_⟩
   ·by_cases e:i=j
    ·subst e
     simp only[if_true]
     rw[<-HUU.out i hi q hq1 hq2]
     rcases (show q=2\/q=3 by omega) with rfl|rfl<;>rfl
    ·simp only[if_neg e]
     exact HUU.out i hi q hq1 hq2
   ·by_cases e:i=j
    ·subst e
     simp only[if_true,mkW,HKJ.out]
     rcases (show q<2\/2<=q by omega) with h|h
     ·rcases (show q=0\/q=1 by omega) with rfl|rfl<;>rfl
     ·have:=HUU.out i hlt q h hq
      rcases (show q=2\/q=3 by omega) with rfl|rfl<;>exact this
    ·simp only[if_neg e]
     exact HVV.out i (by omega) q hq
  go_wp2
  go_roundw
  case rel=>exact⟨j+1,by omega,by go_num,by rw[HKN.out],HRE,HI7,HCC7⟩
  case measure=>simp[intOf];omega
 ·have ej:j=n:=by omega
  subst ej
  go_wp2
  go_ret
  obtain⟨V',⟨a',c',e0,hk⟩,hU',hV'⟩:=HR.out
  refine⟨rfl,⟨a',c',e0,λhp=>?_⟩,λi hi=>?_,HC.out⟩
  ·obtain⟨g,e1,hr⟩:=hk hp
   exact⟨g,e1,hr.congr λi q hi hq=>hV' i hi q hq⟩
  ·obtain⟨F,h1,h2⟩:=HI.out i hi
   exact h1.congr λq hq=>h2 hi q hq
theorem heldWays_any (v:Value)(n:Nat)(vs:Nat->Value)(L:Nat->Nat)(k:Int)(w:World)(h0:SK 45 4 w v n (mkW k L vs))(hv:∀i,i<2*n->SI w (vs i) (L i) (λq=>bW k L i+q))(hn:n<=1000000)(hL:∀i,i<2*n->L i<=1000000)(hk0:0<=k)(hk1:k<=1000000000000000) :
  Calls Tryz.prog 46 #[v,.int .i64 k] w λe w'=>e=.returned (.int .i64 (kW k L n))/\w'=w:=by
 have HL:Hid (∀i,i<2*n->L i<=1000000):=hL
 have HV:Hid (∀i,i<2*n->SI w (vs i) (L i) (λq=>bW k L i+q)):=hv
 obtain⟨a,c,rfl,hr0⟩:=h0
 clear hL hv
 go_enter Tryz.func46,Tryz.ntmps46
 go_wp2
 go_loopw [1,5] (λm i wr=>∃j:Nat,j<=n/\i=.int .i64 j/\m=.int .i64 (kW k L j)/\wr=w) (λ_ i _=>n-(intOf i).toNat)
 case atStart=>exact⟨0,Nat.zero_le _,rfl,rfl,rfl⟩
 obtain⟨j,hjn,rfl,rfl,rfl⟩:=hrel
 have hkb:=kW_le (k:=k) HL.out j hjn
 by_cases hlt:j<n
 ·obtain⟨g,rfl,hr⟩:=hr0 (by omega)
  have c0:=hr.cell hlt (j:=0) (by omega)
  have c1:=hr.cell hlt (j:=1) (by omega)
  have c2:=hr.cell hlt (j:=2) (by omega)
  have c3:=hr.cell hlt (j:=3) (by omega)
  rw[Nat.add_zero] at c0
  simp only[mkW,scW] at c0 c1 c2 c3
  rw[show uvW vs j 2=vs (2*j) from rfl] at c2
  have HG0:=mkHid' (HV.out (2*j) (by omega))
  obtain⟨sa0,sc0,hvs0,_⟩:=HV.out (2*j) (by omega)
  have HVS0:Hid (vs (2*j)=.slice sa0 (L (2*j)) sc0):=hvs0
  rw[hvs0] at c2
  have hl0:=HL.out (2*j) (by omega)
  have HBP0:Hid (bW k L (2*j)=kW k L j+1+1):=by unfold Hid;rw[bW_0];omega
  rw[show uvW vs j 3=vs (2*j+1) from rfl] at c3
  have HG1:=mkHid' (HV.out (2*j+1) (by omega))
  obtain⟨sa1,sc1,hvs1,_⟩:=HV.out (2*j+1) (by omega)
  have HVS1:Hid (vs (2*j+1)=.slice sa1 (L (2*j+1)) sc1):=hvs1
  rw[hvs1] at c3
  have hl1:=HL.out (2*j+1) (by omega)
  have HBP1:Hid (bW k L (2*j+1)=kW k L j+1+1+L (2*j)):=by unfold Hid;rw[bW_1];omega
  have hlt':(j:Int)<n:=by omega
  have HKN:Hid (kW k L (j+1)=kW k L j+1+1+L (2*j)+L (2*j+1)):=by unfold Hid;show kW k L j+2+((L (2*j):Int)+(L (2*j+1):Int))=_;omega
  generalize kW k L j=kj at *
  have n0:(kj !=kj)=false:=by simp
  have n1:(((kj+1)%3==0) !=((kj+1)%3==0))=false:=by simp
  have np0:¬kj+1+1+(L (2*j):Int)<0:=by omega
  have np1:¬kj+1+1+(L (2*j):Int)+(L (2*j+1):Int)<0:=by omega
  clear hr hvs0 hvs1
  go_wp2_with fail
  refine(heldI_any (.slice sa0 (L (2*j)) sc0) (L (2*j)) _ (kj+1+1) (by have:=HG0.out;rw[HVS0.out,HBP0.out] at this;exact this) (by omega) (by omega) (by omega)).mono ?_
  rintro e w6 ⟨rfl,rfl⟩
  go_wp2_with fail
  refine(heldI_any (.slice sa1 (L (2*j+1)) sc1) (L (2*j+1)) _ (kj+1+1+L (2*j)) (by have:=HG1.out;rw[HVS1.out,HBP1.out] at this;exact this) (by omega) (by omega) (by omega)).mono ?_
  rintro e w6 ⟨rfl,rfl⟩
  go_wp2
  go_roundw
  case rel=>exact⟨j+1,by omega,by go_num,by rw[HKN.out],trivial⟩
  case measure=>simp[intOf];omega
 ·have ej:j=n:=by omega
  subst ej
  go_wp2
  go_ret
  exact⟨rfl,rfl⟩
end Go.Proofs.YthhkjbfkgdlkmaaGreatDoor
