import Derived.Test.YthhkjbfkgdlkmaaGreatDoorRC
namespace Go.Proofs.YthhkjbfkgdlkmaaGreatDoor
open Go.RowKit Go.Sort
set_option linter.unusedVariables false
set_option maxRecDepth 1000000
set_option maxHeartbeats 16000000
def scR (z:Int)(u:Nat->Value):Nat->Value
 |0=>.int .i64 (z)
 |1=>.bool ((z+1)%3==0)
 |2=>.int .i64 (z+1+1)
 |3=>.int .i64 (z+1+1+1)
 |4=>.bool ((z+1+1+1+1)%3==0)
 |5=>.int .i64 (z+1+1+1+1+1)
 |q=>u q
theorem RK.markR {w:World}{g n:Nat}{V:Nat->Nat->Value}(h:RK 47 7 w g n V){i:Nat}(hi:i<n)(z:Int) :
  RK 47 7 ((((((w.setCell ⟨g,i*7,none⟩ (.int .i64 (z))).setCell ⟨g,i*7+1,none⟩ (.bool ((z+1)%3==0))).setCell ⟨g,i*7+2,none⟩ (.int .i64 (z+1+1))).setCell ⟨g,i*7+3,none⟩ (.int .i64 (z+1+1+1))).setCell ⟨g,i*7+4,none⟩ (.bool ((z+1+1+1+1)%3==0))).setCell ⟨g,i*7+5,none⟩ (.int .i64 (z+1+1+1+1+1))) g n (λi' j'=>if i'=i then scR z (V i') j' else V i' j'):=by
 have h':=((((((h.set hi (j:=0) (by omega) (.int .i64 (z))).set hi (j:=1) (by omega) (.bool ((z+1)%3==0))).set hi (j:=2) (by omega) (.int .i64 (z+1+1))).set hi (j:=3) (by omega) (.int .i64 (z+1+1+1))).set hi (j:=4) (by omega) (.bool ((z+1+1+1+1)%3==0))).set hi (j:=5) (by omega) (.int .i64 (z+1+1+1+1+1)))
 refine RK.congr h' λi' j' _ hj'=>?_
 by_cases e:i'=i
 ·subst e
  rcases (show j'=0\/j'=1\/j'=2\/j'=3\/j'=4\/j'=5\/j'=6 by omega) with rfl|rfl|rfl|rfl|rfl|rfl|rfl<;>simp[scR]
 ·simp[e]
theorem chgR {w:World}{g i:Nat}(z:Int):Chg (λx=>x=g) w ((((((w.setCell ⟨g,i*7,none⟩ (.int .i64 (z))).setCell ⟨g,i*7+1,none⟩ (.bool ((z+1)%3==0))).setCell ⟨g,i*7+2,none⟩ (.int .i64 (z+1+1))).setCell ⟨g,i*7+3,none⟩ (.int .i64 (z+1+1+1))).setCell ⟨g,i*7+4,none⟩ (.bool ((z+1+1+1+1)%3==0))).setCell ⟨g,i*7+5,none⟩ (.int .i64 (z+1+1+1+1+1))):=((((((Chg.set (S:=λx=>x=g) g _ _ rfl).trans (Chg.set (S:=λx=>x=g) g _ _ rfl)).trans (Chg.set (S:=λx=>x=g) g _ _ rfl)).trans (Chg.set (S:=λx=>x=g) g _ _ rfl)).trans (Chg.set (S:=λx=>x=g) g _ _ rfl)).trans (Chg.set (S:=λx=>x=g) g _ _ rfl))
def kR (k:Int)(L:Nat->Nat):Nat->Int
 |0=>k
 |i+1=>kR k L i+6+(L (i))
theorem kR_le {k:Int}{L:Nat->Nat}{n:Nat}(hL:∀i,i<n->L i<=1000000):∀i,i<=n->k<=kR k L i/\kR k L i<=k+2000010*i
 |0,_=>by simp[kR]
 |i+1,h=>by
  have h1:=kR_le (k:=k) hL i (by omega)
  have h2:=hL (i) (by omega)
  unfold kR
  omega
def bR (k:Int)(L:Nat->Nat)(i:Nat):Int:=kR k L i+6
theorem bR_0 (k:Int)(L:Nat->Nat)(j:Nat):bR k L j=kR k L j+6:=rfl
def uvR (vs:Nat->Value)(i q:Nat):Value:=vs i
def mkR (k:Int)(L:Nat->Nat)(vs:Nat->Value)(i q:Nat):Value:=scR (kR k L i) (uvR vs i) q
theorem markRels_any (v:Value)(n:Nat)(vs:Nat->Value)(L:Nat->Nat)(V:Nat->Nat->Value)(k:Int)(w:World)(h0:SK 47 7 w v n V)(hu:∀i,i<n->∀q,6<=q->q<7->V i q=uvR vs i q)(hS:Sep v (n) vs)(hv:∀i,i<n->∃F,SI w (vs i) (L i) F)(hn:n<=1000000)(hL:∀i,i<n->L i<=1000000)(hk0:0<=k)(hk1:k<=1000000000000000) :
  Calls Tryz.prog 43 #[v,.int .i64 k] w λe w'=>e=.returned (.int .i64 (kR k L n))/\SK 47 7 w' v n (mkR k L vs)/\(∀i,i<n->SI w' (vs i) (L i) (λq=>bR k L i+q))/\Chg (inS v (n) vs) w w':=by
 have HS:Hid (Sep v (n) vs):=hS
 have HL:Hid (∀i,i<n->L i<=1000000):=hL
 have HV:Hid (∀i,i<n->∃F,SI w (vs i) (L i) F):=hv
 have H0:Hid (SK 47 7 w v n V):=h0
 have HU:Hid (∀i,i<n->∀q,6<=q->q<7->V i q=uvR vs i q):=hu
 obtain⟨a,c,rfl,_⟩:=h0
 clear hS hL hv hu
 go_enter Tryz.func43,Tryz.ntmps43
 go_wp2
 go_loopw [1,5] (λm i wr=>∃j:Nat,j<=n/\i=.int .i64 j/\m=.int .i64 (kR k L j)/\Hid (∃V',SK 47 7 wr (.slice a n c) n V'/\(∀i,i<n->∀q,6<=q->q<7->V' i q=uvR vs i q)/\∀i,i<j->∀q,q<7->V' i q=mkR k L vs i q)/\Hid (∀i,i<n->∃F',SI wr (vs i) (L i) F'/\(i<j->∀q:Nat,q<L i->F' q=bR k L i+q))/\Hid (Chg (inS (.slice a n c) (n) vs) w wr)) (λ_ i _=>n-(intOf i).toNat)
 case atStart=>exact⟨0,Nat.zero_le _,rfl,rfl,⟨V,H0.out,HU.out,λi hi=>absurd hi (Nat.not_lt_zero _)⟩,λi hi=>by obtain⟨F,hF⟩:=HV.out i hi;exact⟨F,hF,λh=>absurd h (by omega)⟩,Chg.nx (Below.refl _ _)⟩
 obtain⟨j,hjn,rfl,rfl,HR,HI,HC⟩:=hrel
 clear H0 HV HU
 have hkb:=kR_le (k:=k) HL.out j hjn
 by_cases hlt:j<n
 ·obtain⟨V',⟨a',c',e0,hk⟩,hU',hV'⟩:=HR.out
  simp only[Value.slice.injEq,true_and] at e0
  obtain⟨rfl,rfl⟩:=e0
  obtain⟨g,rfl,hr⟩:=hk (by omega)
  have c0:=hr.cell hlt (j:=0) (by omega)
  have c1:=hr.cell hlt (j:=1) (by omega)
  have c2:=hr.cell hlt (j:=2) (by omega)
  have c3:=hr.cell hlt (j:=3) (by omega)
  have c4:=hr.cell hlt (j:=4) (by omega)
  have c5:=hr.cell hlt (j:=5) (by omega)
  have c6:=hr.cell hlt (j:=6) (by omega)
  have f0:=hr.frozen (j*7)
  have f1:=hr.frozen (j*7+1)
  have f2:=hr.frozen (j*7+2)
  have f3:=hr.frozen (j*7+3)
  have f4:=hr.frozen (j*7+4)
  have f5:=hr.frozen (j*7+5)
  rw[Nat.add_zero] at c0
  have u0:V' j 6=vs j:=hU' j hlt 6 (by decide) (by decide)
  obtain⟨F0,hF0,_⟩:=HI.out j (by omega)
  have HF0:Hid (SI wr (vs j) (L j) F0):=hF0
  obtain⟨sa0,sc0,hvs0,_⟩:=hF0
  have HVS0:Hid (vs j=.slice sa0 (L j) sc0):=hvs0
  rw[u0,hvs0] at c6
  have hl0:=HL.out j (by omega)
  have hlt':(j:Int)<n:=by omega
  have HRR:Hid (RK 47 7 wr g n V'):=hr
  have HVV:Hid (∀i,i<j->∀q,q<7->V' i q=mkR k L vs i q):=hV'
  have HUU:Hid (∀i,i<n->∀q,6<=q->q<7->V' i q=uvR vs i q):=hU'
  have HR5:=mkHid' (hr.markR hlt (kR k L j))
  have HC5:Hid (Chg (λx=>x=g) wr ((((((wr.setCell ⟨g,j*7,none⟩ (.int .i64 ((kR k L j)))).setCell ⟨g,j*7+1,none⟩ (.bool (((kR k L j)+1)%3==0))).setCell ⟨g,j*7+2,none⟩ (.int .i64 ((kR k L j)+1+1))).setCell ⟨g,j*7+3,none⟩ (.int .i64 ((kR k L j)+1+1+1))).setCell ⟨g,j*7+4,none⟩ (.bool (((kR k L j)+1+1+1+1)%3==0))).setCell ⟨g,j*7+5,none⟩ (.int .i64 ((kR k L j)+1+1+1+1+1)))):=chgR _
  generalize hKJ:kR k L j=kj at *
  have HKJ:Hid (kR k L j=kj):=hKJ
  have hmod:¬(3:Int)=0:=by omega
  clear hk hr hV' hU' hKJ hvs0 u0
  generalize V' j 0=g0 at c0
  generalize V' j 1=g1 at c1
  generalize V' j 2=g2 at c2
  generalize V' j 3=g3 at c3
  generalize V' j 4=g4 at c4
  generalize V' j 5=g5 at c5
  go_wp2_with fail
  generalize hW5:((((((wr.setCell ⟨g,j*7,none⟩ (.int .i64 (kj))).setCell ⟨g,j*7+1,none⟩ (.bool ((kj+1)%3==0))).setCell ⟨g,j*7+2,none⟩ (.int .i64 (kj+1+1))).setCell ⟨g,j*7+3,none⟩ (.int .i64 (kj+1+1+1))).setCell ⟨g,j*7+4,none⟩ (.bool ((kj+1+1+1+1)%3==0))).setCell ⟨g,j*7+5,none⟩ (.int .i64 (kj+1+1+1+1+1)))=w5 at *
  have HNG:Hid (∀i,i<n->(vs i).ownBlock≠some g):=λi hi e=>HS.out.row i g hi e rfl
  have sk:∀{i:Nat}{F:Nat->Int},i<n->SI wr (vs i) (L i) F->SI w5 (vs i) (L i) F:=λ{i F} hi h=>h.keep2 (λb hbl hb=>HC5.out.block b hbl (λe=>HNG.out i hi (by rw[hb,e])))
  have HG0:Hid (SI w5 (vs j) (L j) F0):=sk (by omega) HF0.out
  have HI5:Hid (∀i,i<n->∃F',SI w5 (vs i) (L i) F'/\(i<j->∀q:Nat,q<L i->F' q=bR k L i+q)):=λi hi=>by
   obtain⟨F,h1,h2⟩:=HI.out i hi
   exact⟨F,sk hi h1,h2⟩
  have HCC5:Hid (Chg (inS (.slice (some ⟨g,0,none⟩) n c) (n) vs) w w5):=HC.out.trans (HC5.out.mono (λb e=>Or.inl (by rw[e];rfl)))
  clear sk hW5 c0 c1 c2 c3 c4 c5 c6 f0 f1 f2 f3 f4 f5 HI HC HC5 HF0
  refine(markI_any (.slice sa0 (L j) sc0) (L j) F0 w5 (kj+1+1+1+1+1+1) (by have:=HG0.out;rw[HVS0.out] at this;exact this) (by omega) (by omega) (by omega)).mono ?_
  rintro e w6 ⟨rfl,hs6,ho6⟩
  have HO6:Hid (Only (vs j).ownBlock w5 w6):=by unfold Hid;rw[HVS0.out];exact ho6
  have HS6:Hid (SI w6 (vs j) (L j) (λi=>kj+1+1+1+1+1+1+i)):=by unfold Hid;rw[HVS0.out];exact hs6
  have HR6:=mkHid' (HR5.out.keep (HO6.out.block g HR5.out.lt (λe=>HNG.out j (by omega) e.symm)))
  have HI6:Hid (∀i,i<n->∃F',SI w6 (vs i) (L i) F'/\(i<j+1->∀q:Nat,q<L i->F' q=bR k L i+q)):=λi hi=>by
   by_cases e:i=j
   ·subst e
    exact⟨_,HS6.out,λ_ q _=>by rw[bR_0,HKJ.out];omega⟩
   ·obtain⟨F,h1,h2⟩:=HI5.out i hi
    exact⟨F,h1.keep2 (λb hbl hb=>HO6.out.block b hbl (λe'=>HS.out.two i j b hi (by omega) e hb e'.symm)),λh=>h2 (by omega)⟩
  have HCC6:Hid (Chg (inS (.slice (some ⟨g,0,none⟩) n c) (n) vs) w w6):=HCC5.out.trans ⟨HO6.out.os,HO6.out.tape,HO6.out.output,HO6.out.size,λb hb hn=>HO6.out.block b hb (λe=>hn (Or.inr ⟨j,by omega,e⟩))⟩
  clear hs6 ho6 HO6 HS6 HI5 HCC5 HR5
  have HKN:Hid (kR k L (j+1)=kj+1+1+1+1+1+1+L j):=by unfold Hid;show kR k L j+6+((L j:Int))=_;rw[HKJ.out];omega
  have HRE:Hid (∃V',SK 47 7 w6 (.slice (some ⟨g,0,none⟩) n c) n V'/\(∀i,i<n->∀q,6<=q->q<7->V' i q=uvR vs i q)/\∀i,i<j+1->∀q,q<7->V' i q=mkR k L vs i q):=by
   refine⟨_,⟨_,_,rfl,λ_=>⟨g,rfl,HR6.out⟩⟩,λi hi q hq1 hq2=>?_,λi hi q hq=>?_⟩
   ·by_cases e:i=j
    ·subst e
     simp only[if_true]
     rw[<-HUU.out i hi q hq1 hq2]
     rcases (show q=6 by omega) with rfl<;>rfl
    ·simp only[if_neg e]
     exact HUU.out i hi q hq1 hq2
   ·by_cases e:i=j
    ·subst e
     simp only[if_true,mkR,HKJ.out]
     rcases (show q<6\/6<=q by omega) with h|h
     ·rcases (show q=0\/q=1\/q=2\/q=3\/q=4\/q=5 by omega) with rfl|rfl|rfl|rfl|rfl|rfl<;>rfl
     ·have:=HUU.out i hlt q h hq
      rcases (show q=6 by omega) with rfl<;>exact this
    ·simp only[if_neg e]
     exact HVV.out i (by omega) q hq
  go_wp2
  go_roundw
  case rel=>exact⟨j+1,by omega,by go_num,by rw[HKN.out],HRE,HI6,HCC6⟩
  case measure=>simp[intOf];omega
 ·have ej:j=n:=by omega
  subst ej
  go_wp2
  go_ret
  obtain⟨V',⟨a',c',e0,hk⟩,hU',hV'⟩:=HR.out
  refine⟨rfl,⟨a',c',e0,λhp=>?_⟩,λi hi=>?_,HC.out⟩
  ·obtain⟨g,e1,hr⟩:=hk hp
   exact⟨g,e1,hr.congr λi q hi hq=>hV' i hi q hq⟩
  ·obtain⟨F,h1,h2⟩:=HI.out i hi
   exact h1.congr λq hq=>h2 hi q hq
theorem heldRels_any (v:Value)(n:Nat)(vs:Nat->Value)(L:Nat->Nat)(k:Int)(w:World)(h0:SK 47 7 w v n (mkR k L vs))(hv:∀i,i<n->SI w (vs i) (L i) (λq=>bR k L i+q))(hn:n<=1000000)(hL:∀i,i<n->L i<=1000000)(hk0:0<=k)(hk1:k<=1000000000000000) :
  Calls Tryz.prog 47 #[v,.int .i64 k] w λe w'=>e=.returned (.int .i64 (kR k L n))/\w'=w:=by
 have HL:Hid (∀i,i<n->L i<=1000000):=hL
 have HV:Hid (∀i,i<n->SI w (vs i) (L i) (λq=>bR k L i+q)):=hv
 obtain⟨a,c,rfl,hr0⟩:=h0
 clear hL hv
 go_enter Tryz.func47,Tryz.ntmps47
 go_wp2
 go_loopw [1,5] (λm i wr=>∃j:Nat,j<=n/\i=.int .i64 j/\m=.int .i64 (kR k L j)/\wr=w) (λ_ i _=>n-(intOf i).toNat)
 case atStart=>exact⟨0,Nat.zero_le _,rfl,rfl,rfl⟩
 obtain⟨j,hjn,rfl,rfl,rfl⟩:=hrel
 have hkb:=kR_le (k:=k) HL.out j hjn
 by_cases hlt:j<n
 ·obtain⟨g,rfl,hr⟩:=hr0 (by omega)
  have c0:=hr.cell hlt (j:=0) (by omega)
  have c1:=hr.cell hlt (j:=1) (by omega)
  have c2:=hr.cell hlt (j:=2) (by omega)
  have c3:=hr.cell hlt (j:=3) (by omega)
  have c4:=hr.cell hlt (j:=4) (by omega)
  have c5:=hr.cell hlt (j:=5) (by omega)
  have c6:=hr.cell hlt (j:=6) (by omega)
  rw[Nat.add_zero] at c0
  simp only[mkR,scR] at c0 c1 c2 c3 c4 c5 c6
  rw[show uvR vs j 6=vs j from rfl] at c6
  have HG0:=mkHid' (HV.out j (by omega))
  obtain⟨sa0,sc0,hvs0,_⟩:=HV.out j (by omega)
  have HVS0:Hid (vs j=.slice sa0 (L j) sc0):=hvs0
  rw[hvs0] at c6
  have hl0:=HL.out j (by omega)
  have HBP0:Hid (bR k L j=kR k L j+1+1+1+1+1+1):=by unfold Hid;rw[bR_0];omega
  have hlt':(j:Int)<n:=by omega
  have HKN:Hid (kR k L (j+1)=kR k L j+1+1+1+1+1+1+L j):=by unfold Hid;show kR k L j+6+((L j:Int))=_;omega
  generalize kR k L j=kj at *
  have n0:(kj !=kj)=false:=by simp
  have n1:(((kj+1)%3==0) !=((kj+1)%3==0))=false:=by simp
  have n2:(kj+1+1 !=kj+1+1)=false:=by simp
  have n3:(kj+1+1+1 !=kj+1+1+1)=false:=by simp
  have n4:(((kj+1+1+1+1)%3==0) !=((kj+1+1+1+1)%3==0))=false:=by simp
  have n5:(kj+1+1+1+1+1 !=kj+1+1+1+1+1)=false:=by simp
  have np0:¬kj+1+1+1+1+1+1+(L j:Int)<0:=by omega
  clear hr hvs0
  go_wp2_with fail
  refine(heldI_any (.slice sa0 (L j) sc0) (L j) _ (kj+1+1+1+1+1+1) (by have:=HG0.out;rw[HVS0.out,HBP0.out] at this;exact this) (by omega) (by omega) (by omega)).mono ?_
  rintro e w6 ⟨rfl,rfl⟩
  go_wp2
  go_roundw
  case rel=>exact⟨j+1,by omega,by go_num,by rw[HKN.out],trivial⟩
  case measure=>simp[intOf];omega
 ·have ej:j=n:=by omega
  subst ej
  go_wp2
  go_ret
  exact⟨rfl,rfl⟩
end Go.Proofs.YthhkjbfkgdlkmaaGreatDoor
