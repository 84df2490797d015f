import Derived.Test.YtphiaobccollhaaGreatQLB
namespace Go.Proofs.YtphiaobccollhaaGreat
open Go.RowKit Tryz
set_option linter.unusedVariables false
set_option maxRecDepth 1000000
set_option maxHeartbeats 16000000
theorem F0 {w w':World}(k:Nx w w'){b o:Nat}{v:Value}(h:w.cell? (aD b o)=some v):w'.cell? (aD b o)=some v:=Q2 k (Jk h) h
def J2 (rs:List Ru)(i:Nat):Ru:=rs.getD i ⟨0,false,[]⟩
def Q85 (B:Nat)(w:World)(b o:Nat)(x:Ru):Prop:=
 ∃a c,w.cell? (aD b o)=some (iV x.rel)/\w.cell? (aD b (o+1))=some (.bool x.only)/\w.cell? (aD b (o+2))=some (sL a x.seq.length c)/\Qi B w (sL a x.seq.length c) x.seq/\x.seq.length<=c
def Zl (B:Nat)(w:World)(v:Value)(rs:List Ru):Prop:=Jn B w v rs.length λb off i=>Q85 B w b (off+i*3) (J2 rs i)
theorem Q85.keep {B:Nat}{w w':World}{b o:Nat}{x:Ru}(h:Q85 B w b o x)(hb:B<=b)(hs:b<w.heap.size)(k:Ym B w w'):Q85 B w' b o x:=by
 obtain⟨a,c,h1,h2,h3,h4,h5⟩:=h
 exact⟨a,c,(k.2 b hb hs _).trans h1,(k.2 b hb hs _).trans h2,(k.2 b hb hs _).trans h3,h4.keep k,h5⟩
theorem Zl.keep {B:Nat}{w w':World}{v:Value}{rs:List Ru}(h:Zl B w v rs)(k:Ym B w w'):Zl B w' v rs:=
 Jn.mono h lR k.1 λb off hb hs i hi hc=>hc.keep hb hs k
theorem Zl.next {B:Nat}{w w':World}{v:Value}{rs:List Ru}(h:Zl B w v rs)(k:Nx w w'):Zl B w' v rs:=h.keep (k.keeps B)
def Ff (e:Int):Bool:=decide (0<=e)&&decide (e<4000)
def Q1r (x:Ru):Bool:=decide (2<=x.seq.length)&&(decide (x.seq.length<=402)&&Qo x.seq.length (λj=>Ff (iat x.seq j)))
def rgB (rs:List Ru):Bool:=decide (rs.length<=1000)&&Qo rs.length (λi=>Q1r (J2 rs i))
theorem Qfp {rs:List Ru}(h:¬rs.length<=1000):false=rgB rs:=by simp[rgB,h]
theorem Q77 {rs:List Ru}{k n:Nat}(hn:rs.length=n)(hk:k<n)(h:Q1r (J2 rs k)=false):false=rgB rs:=by
 subst hn
 unfold rgB
 rw[Qx (p:=λi=>Q1r (J2 rs i)) hk h];simp
theorem Qfo {rs:List Ru}{k n:Nat}(hn:rs.length=n)(h1:n<=1000)(hk:n<=k)(h:Jz (λi=>Q1r (J2 rs i)) k):true=rgB rs:=by
 subst hn
 unfold rgB
 rw[Qt hk h];simp[h1]
theorem Fs (B:Nat)(v:Value)(rs:List Ru)(w:World)(h0:Zl B w v rs) :
  Calls prog 88 #[v] w λe w'=>e=.returned (.bool (rgB rs))/\w'=w:=by
 obtain⟨a,cap,rfl,hn,hk⟩:=h0
 unfold maxLen at hn
 generalize hz:rs.length=n at *
 have HZ:=mh hz
 clear hz
 by_cases e1:n<=1000
 case neg=>
  have d1:decide (1000<(n:Int))=true:=by simp;omega
  have HF:=mh (Qfp (by rw[HZ.o];exact e1))
  go_enter func88,ntmps88
  go_wp2
  go_ret
  exact⟨Q3 HF.o,rfl⟩
 have d1:decide (1000<(n:Int))=false:=by simp;omega
 go_enter func88,ntmps88
 go_wp2
 clear d1
 go_loop [3,4] (λi _=>∃k:Nat,k<=n/\i=iV k/\Z (Jz (λi=>Q1r (J2 rs i)) k)) (λi _=>n-(intOf i).toNat)
 case atStart=>exact⟨0,nZ,rfl,Qy _⟩
 obtain⟨k,hkn,rfl,HA⟩:=hrel
 by_cases hlt:k<n
 case neg=>
  have HF:=mh (Qfo HZ.o e1 (by omega) HA.o)
  go_wp2
  go_ret
  exact⟨Q3 HF.o,rfl⟩
 obtain⟨b,off,rfl,_,hb,hc⟩:=hk (by omega)
 obtain⟨sa,sc,c0,c1,c2,hS,hcap⟩:=hc k hlt
 have hlt':(k:Int)<n:=by omega
 clear c0 c1 hc hk
 generalize hx:J2 rs k=x at *
 have HX:=mh hx
 clear hx
 obtain⟨sa',sc',e',hsn,hsk⟩:=hS
 simp only[zC] at e'
 obtain⟨rfl,_,rfl⟩:=e'
 unfold maxLen at hsn
 have HRG:Z (Q1r x=(decide (2<=x.seq.length)&&(decide (x.seq.length<=402)&&Qo x.seq.length (λj=>Ff (iat x.seq j))))):=rfl
 generalize hm:x.seq.length=m at *
 clear hm
 by_cases g1:2<=m
 case neg=>
  have f1:decide ((m:Int)<2)=true:=by simp;omega
  have HF:=mh (Q77 HZ.o hlt (by rw[HX.o,HRG.o];simp[g1]))
  go_wp2
  go_ret
  exact⟨Q3 HF.o,rfl⟩
 have f1:decide ((m:Int)<2)=false:=by simp;omega
 by_cases g2:m<=402
 case neg=>
  have f2:decide (402<(m:Int))=true:=by simp;omega
  have HF:=mh (Q77 HZ.o hlt (by rw[HX.o,HRG.o];simp[g2]))
  go_wp2
  go_ret
  exact⟨Q3 HF.o,rfl⟩
 have f2:decide (402<(m:Int))=false:=by simp;omega
 go_wp2
 clear f1 f2
 go_loop [4] (λi=>∃q:Nat,q<=m/\i=iV q/\Z (Jz (λj=>Ff (iat x.seq j)) q)) (λi=>m-(intOf i).toNat)
 case atStart=>exact⟨0,nZ,rfl,Qy _⟩
 obtain⟨q,hqm,rfl,HQ⟩:=hrel
 by_cases hql:q<m
 case neg=>
  have HF:Z (Q1r x=true):=by unfold Z;rw[HRG.o,Qt (by omega) HQ.o];simp[g1,g2]
  go_wp2
  go_round
  case rel=>exact⟨k+1,by omega,by go_num,Qm HA.o (by show Q1r (J2 rs k)=true;rw[HX.o];exact HF.o)⟩
  case measure=>simp[intOf];omega
 obtain⟨b',off',rfl,_,hb',hc'⟩:=hsk (by omega)
 have x0:=hc' q hql
 have hql':(q:Int)<m:=by omega
 clear hc' hsk
 by_cases g3:0<=iat x.seq q
 case neg=>
  have f3:decide (iat x.seq q<0)=true:=by simp;omega
  have HF:=mh (Q77 HZ.o hlt (by rw[HX.o,HRG.o,Qx hql (by simp[Ff,g3])];simp))
  clear g3
  go_wp2
  go_ret
  exact⟨Q3 HF.o,rfl⟩
 have f3:decide (iat x.seq q<0)=false:=by simp;omega
 by_cases g4:iat x.seq q<4000
 case neg=>
  have f4:decide (4000<=iat x.seq q)=true:=by simp;omega
  have HF:=mh (Q77 HZ.o hlt (by rw[HX.o,HRG.o,Qx hql (by simp[Ff,g4])];simp))
  clear g3 g4
  go_wp2
  go_ret
  exact⟨Q3 HF.o,rfl⟩
 have f4:decide (4000<=iat x.seq q)=false:=by simp;omega
 have HE:Z (Ff (iat x.seq q)=true):=by unfold Z;simp[Ff,g3,g4]
 clear g3 g4
 go_wp2
 go_round
 case rel=>exact⟨q+1,by omega,by go_num,Qm HQ.o HE.o⟩
 case measure=>simp[intOf];omega
def Px (q xs:List Int):Bool:=decide (q.length<=xs.length)&&Qo q.length (λi=>iat xs (xs.length-q.length+i)==iat q i)
theorem Ip (B B':Nat)(v v':Value)(xs q:List Int)(w:World)(h0:Qi B w v xs)(h1:Qi B' w v' q) :
  Calls prog 106 #[v,iV xs.length,v'] w λe w'=>e=.returned (.bool (Px q xs))/\Nx w w':=by
 have HSD:Z (Px q xs=(decide (q.length<=xs.length)&&Qo q.length (λi=>iat xs (xs.length-q.length+i)==iat q i))):=rfl
 obtain⟨a,cap,rfl,hn,hk⟩:=h0
 obtain⟨a',cap',rfl,hn',hk'⟩:=h1
 unfold maxLen at hn hn'
 generalize xs.length=n at *
 generalize q.length=m at *
 by_cases e1:m<=n
 case neg=>
  have d1:decide ((n:Int)<m)=true:=by simp;omega
  have HF:Z (false=Px q xs):=by unfold Z;rw[HSD.o];simp[e1]
  go_enter func106,ntmps106
  go_wp2
  go_ret
  exact⟨Q3 HF.o,Nx.refl _⟩
 have d1:decide ((n:Int)<m)=false:=by simp;omega
 obtain⟨d,rfl⟩:∃d,n=m+d:=⟨n-m,by omega⟩
 have HS2:Z (Px q xs=Qo m (λi=>iat xs (d+i)==iat q i)):=by
  unfold Z
  rw[HSD.o,show m+d-m=d by omega]
  simp
 clear HSD d1
 have d1:decide ((m:Int)+d<m)=false:=by simp;omega
 go_enter func106,ntmps106
 go_wp2
 clear d1
 go_loopw [7] (λi wr=>∃k:Nat,k<=m/\i=iV k/\Z (Jz (λi=>iat xs (d+i)==iat q i) k)/\Z (Nx w wr)) (λi _=>m-(intOf i).toNat)
 case atStart=>exact⟨0,nZ,rfl,Qy _,Nx.refl _⟩
 obtain⟨k,hkm,rfl,HA,HN⟩:=hrel
 by_cases hlt:k<m
 case neg=>
  have HF:Z (true=Px q xs):=by unfold Z;rw[HS2.o,Qt (by omega) HA.o]
  go_wp2
  go_ret
  exact⟨Q3 HF.o,HN.o⟩
 obtain⟨b,off,rfl,_,hb,hc⟩:=hk (by omega)
 obtain⟨b',off',rfl,_,hb',hc'⟩:=hk' (by omega)
 have x0:=Q2 HN.o hb (hc (d+k) (by omega))
 have y0:=Q2 HN.o hb' (hc' k hlt)
 have hlt':(k:Int)<m:=by omega
 have w1:IntKind.i64.wrap ((m:Int)+d-m)=(d:Int):=by rw[IntKind.wrap_i64];omega
 have w2:IntKind.i64.wrap ((d:Int)+k)=(d:Int)+k:=by rw[IntKind.wrap_i64];omega
 have hdk:(d:Int)+k<(m:Int)+d:=by omega
 clear hc hc' hk hk'
 cases g:(iat xs (d+k)==iat q k)
 case false=>
  have g':(iat xs (d+k) !=iat q k)=true:=by simpa using g
  have HF:Z (false=Px q xs):=by unfold Z;rw[HS2.o,Qx hlt g]
  clear g
  go_wp2
  go_quiet (fail)
  go_wp2
  go_ret
  exact⟨Q3 HF.o,HN.o.trans ⟨rfl,rfl,rfl,lR,λ_ _=>rfl⟩⟩
 case true=>
  have g':(iat xs (d+k) !=iat q k)=false:=by simpa using g
  have HG:=mh g
  clear g
  go_wp2
  go_quiet (fail)
  go_wp2
  go_roundw
  case rel=>exact⟨k+1,by omega,by go_num,Qm HA.o HG.o,HN.o.trans ⟨rfl,rfl,rfl,lR,λ_ _=>rfl⟩⟩
  case measure=>simp[intOf];omega
def Kh (x:Ru)(xs:List Int):Bool:=!x.only&&Px x.seq xs
def V3 (rs:List Ru)(xs:List Int):Bool:=!Qo rs.length (λi=>!Kh (J2 rs i) xs)
theorem Qep {rs:List Ru}{xs:List Int}{k n:Nat}(hn:rs.length=n)(hk:k<n)(h:Kh (J2 rs k) xs=true):true=V3 rs xs:=by
 subst hn
 unfold V3
 rw[Qx (p:=λi=>!Kh (J2 rs i) xs) hk (by simp[h])];rfl
theorem Qgh {rs:List Ru}{xs:List Int}{k n:Nat}(hn:rs.length=n)(hk:n<=k)(h:Jz (λi=>!Kh (J2 rs i) xs) k):false=V3 rs xs:=by
 subst hn
 unfold V3
 rw[Qt hk h];rfl
theorem Q0v (B B':Nat)(v v':Value)(rs:List Ru)(xs:List Int)(w:World)(h0:Zl B w v rs)(h1:Qi B' w v' xs) :
  Calls prog 93 #[v,v'] w λe w'=>e=.returned (.bool (V3 rs xs))/\Nx w w':=by
 have HX:=mh h1
 obtain⟨a,cap,rfl,hn,hk⟩:=h0
 obtain⟨a',cap',rfl,hn',_⟩:=h1
 unfold maxLen at hn hn'
 generalize hz:rs.length=n at *
 have HZ:=mh hz
 clear hz
 go_enter func93,ntmps93
 go_wp2
 go_loopw [5] (λi wr=>∃k:Nat,k<=n/\i=iV k/\Z (Jz (λi=>!Kh (J2 rs i) xs) k)/\Z (Nx w wr)) (λi _=>n-(intOf i).toNat)
 case atStart=>exact⟨0,nZ,rfl,Qy _,Nx.refl _⟩
 obtain⟨k,hkm,rfl,HA,HN⟩:=hrel
 by_cases hlt:k<n
 case neg=>
  have HF:=mh (Qgh HZ.o (by omega) HA.o)
  go_wp2
  go_ret
  exact⟨Q3 HF.o,HN.o⟩
 obtain⟨b,off,rfl,_,hb,hc⟩:=hk (by omega)
 obtain⟨sa,sc,c0,c1,c2,hS,hcap⟩:=hc k hlt
 have c1:=Q2 HN.o hb c1
 have c2:=Q2 HN.o hb c2
 have hlt':(k:Int)<n:=by omega
 have HS:=mh hS
 have HBD:Z (Kh (J2 rs k) xs=(!(J2 rs k).only&&Px (J2 rs k).seq xs)):=rfl
 clear hc hk c0 hS
 cases g1:(J2 rs k).only
 case true=>
  have HF:Z ((!Kh (J2 rs k) xs)=true):=by unfold Z;rw[HBD.o,g1];rfl
  rw[g1] at c1
  clear g1
  go_wp2
  go_roundw
  case rel=>exact⟨k+1,by omega,by go_num,Qm HA.o HF.o,HN⟩
  case measure=>simp[intOf];omega
 rw[g1] at c1 HBD
 clear g1
 go_wp2_with fail
 refine(Ip B' B _ _ xs (J2 rs k).seq _ (by exact HX.o.next HN.o) (by exact HS.o.next HN.o)).mono ?_
 rintro e w1 ⟨rfl,hx⟩
 have HN1:=mh (HN.o.trans hx)
 clear hx c1 c2
 cases g2:Px (J2 rs k).seq xs
 case true=>
  have HF:=mh (Qep HZ.o hlt (by rw[HBD.o,g2];rfl))
  clear g2
  go_wp2
  go_ret
  exact⟨Q3 HF.o,HN1.o⟩
 case false=>
  have HF:Z ((!Kh (J2 rs k) xs)=true):=by unfold Z;rw[HBD.o,g2];rfl
  clear g2
  go_wp2
  go_roundw
  case rel=>exact⟨k+1,by omega,by go_num,Qm HA.o HF.o,HN1⟩
  case measure=>simp[intOf];omega
theorem Qbn {zs:List Int}{k i:Nat}(h:i<k):iat (zs.take k) i=iat zs i:=by
 simp[iat,List.getD,List.getElem?_take_of_lt h]
theorem Qi.take {B:Nat}{w:World}{a:Option Addr}{n c:Nat}{zs:List Int}(h:Qi B w (sL a n c) zs){k:Nat}(hk:k<=n)(c':Nat):Qi B w (sL a k c') (zs.take k):=by
 obtain⟨a0,c0,e,hn,hk'⟩:=h
 simp only[zC] at e
 obtain⟨rfl,rfl,rfl⟩:=e
 have hl:(zs.take k).length=k:=by rw[zX];omega
 refine⟨_,c',by rw[hl],by rw[hl];omega,λh0=>?_⟩
 rw[hl] at h0
 obtain⟨b,off,rfl,hB,hb,hc⟩:=hk' (by omega)
 refine⟨b,off,rfl,hB,hb,λi hi=>?_⟩
 rw[hl] at hi
 show w.cell? _=_
 rw[Qbn hi]
 exact hc i (by omega)
def Q0w (m l:Int):Int:=if m=-1\/m=l then l else -2
def Gp (x:Ru)(xs:List Int):Bool:=x.only&&Px (x.seq.take (x.seq.length-1)) xs
def V2 (rs:List Ru)(xs:List Int):Nat->Int
 |0=>-1
 |k+1=>if Gp (J2 rs k) xs=true then Q0w (V2 rs xs k) (iat (J2 rs k).seq ((J2 rs k).seq.length-1)) else V2 rs xs k
def Jd (rs:List Ru)(xs:List Int):Int:=V2 rs xs rs.length
theorem Ex (B B':Nat)(v v':Value)(rs:List Ru)(xs:List Int)(w:World)(h0:Zl B w v rs)(h1:Qi B' w v' xs)(hg:∀i,i<rs.length->2<=(J2 rs i).seq.length) :
  Calls prog 92 #[v,v'] w λe w'=>e=.returned (iV (Jd rs xs))/\Nx w w':=by
 have HX:=mh h1
 have HGD:=mh hg
 clear hg
 obtain⟨a,cap,rfl,hn,hk⟩:=h0
 obtain⟨a',cap',rfl,hn',_⟩:=h1
 unfold maxLen at hn hn'
 generalize hz:rs.length=n at *
 have HZ:=mh hz
 clear hz
 go_enter func92,ntmps92
 go_wp2
 go_loopw [5,6,7,8] (λm i _ _ wr=>∃k:Nat,k<=n/\i=iV k/\m=iV (V2 rs xs k)/\Z (Nx w wr)) (λ_ i _ _ _=>n-(intOf i).toNat)
 case atStart=>exact⟨0,nZ,rfl,rfl,Nx.refl _⟩
 obtain⟨k,hkm,rfl,rfl,HN⟩:=hrel
 by_cases hlt:k<n
 case neg=>
  have ek:n=k:=by omega
  subst ek
  have HF:Z (V2 rs xs n=Jd rs xs):=by unfold Z Jd;rw[HZ.o]
  clear hlt
  go_wp2
  go_ret
  exact⟨Qu HF.o,HN.o⟩
 obtain⟨b,off,rfl,_,hb,hc⟩:=hk (by omega)
 obtain⟨sa,sc,c0,c1,c2,hS,hcap⟩:=hc k hlt
 have c1:=Q2 HN.o hb c1
 have c2:=Q2 HN.o hb c2
 have hlt':(k:Int)<n:=by omega
 have h2:=HGD.o k hlt
 have HS:=mh hS
 have HMT:Z (V2 rs xs (k+1)=if Gp (J2 rs k) xs=true then Q0w (V2 rs xs k) (iat (J2 rs k).seq ((J2 rs k).seq.length-1)) else V2 rs xs k):=rfl
 have HMA:Z (Gp (J2 rs k) xs=((J2 rs k).only&&Px ((J2 rs k).seq.take ((J2 rs k).seq.length-1)) xs)):=rfl
 obtain⟨sa',sc',e',hsn,hsk⟩:=hS
 simp only[zC] at e'
 obtain⟨rfl,_,rfl⟩:=e'
 unfold maxLen at hsn
 generalize J2 rs k=x at *
 generalize hq:x.seq.length=q at *
 clear hq
 obtain⟨p,rfl⟩:∃p,q=p+1:=⟨q-1,by omega⟩
 rw[Nat.add_sub_cancel] at HMT HMA
 obtain⟨b',off',rfl,_,hb',hc'⟩:=hsk (by omega)
 have z0:=Q2 HN.o hb' (hc' p (by omega))
 have w1:IntKind.i64.wrap ((p:Int)+1-1)=(p:Int):=by rw[IntKind.wrap_i64];omega
 have w2:((p:Int)+1-1)=(p:Int):=by omega
 have hp1:(p:Int)<(p:Int)+1:=by omega
 have hp2:(p:Int)<=sc:=by omega
 have wp:=Va p (by omega)
 clear hc hk c0 hc' hsk
 generalize iat x.seq p=l at *
 generalize V2 rs xs k=m at *
 cases g1:x.only
 case false=>
  have HF:Z (V2 rs xs (k+1)=m):=by unfold Z;rw[HMT.o,HMA.o,g1];rfl
  rw[g1] at c1
  clear g1
  go_wp2
  go_roundw
  case rel=>exact⟨k+1,by omega,by go_num,by rw[HF.o],HN⟩
  case measure=>simp[intOf];omega
 rw[g1] at c1 HMA
 clear g1
 go_wp2_with fail
 refine(Ip B' B _ _ xs (x.seq.take p) _ (by exact HX.o.next HN.o) (by exact(HS.o.take (Nat.le_succ _) _).next HN.o)).mono ?_
 rintro e w1 ⟨rfl,hx⟩
 have HN1:=mh (HN.o.trans hx)
 have c2:=F0 hx c2
 have z0:=F0 hx z0
 clear hx c1
 cases g2:Px (x.seq.take p) xs
 case false=>
  have HF:Z (V2 rs xs (k+1)=m):=by unfold Z;rw[HMT.o,HMA.o,g2];rfl
  clear g2
  go_wp2
  go_roundw
  case rel=>exact⟨k+1,by omega,by go_num,by rw[HF.o],HN1⟩
  case measure=>simp[intOf];omega
 have HF:Z (V2 rs xs (k+1)=Q0w m l):=by unfold Z;rw[HMT.o,HMA.o,g2];rfl
 have HJ:Z (Q0w m l=if m=-1\/m=l then l else -2):=rfl
 clear g2 HMT HMA
 by_cases g3:m=-1
 ·have f3:(m==-1)=true:=by simpa using g3
  have HF2:Z (V2 rs xs (k+1)=l):=by unfold Z;rw[HF.o,HJ.o,if_pos (oL g3)]
  clear g3
  go_wp2
  go_roundw
  case rel=>exact⟨k+1,by omega,by go_num,by rw[HF2.o],HN1⟩
  case measure=>simp[intOf];omega
 have f3:(m==-1)=false:=by simpa using g3
 by_cases g4:m=l
 ·have f4:(m==l)=true:=by simpa using g4
  have HF2:Z (V2 rs xs (k+1)=l):=by unfold Z;rw[HF.o,HJ.o,if_pos (oR g4)]
  clear g3 g4
  go_wp2
  go_roundw
  case rel=>exact⟨k+1,by omega,by go_num,by rw[HF2.o],HN1⟩
  case measure=>simp[intOf];omega
 ·have f4:(m==l)=false:=by simpa using g4
  have HF2:Z (V2 rs xs (k+1)=-2):=by unfold Z;rw[HF.o,HJ.o,if_neg (by rintro(h|h);exact g3 h;exact g4 h)]
  clear g3 g4
  go_wp2
  go_roundw
  case rel=>exact⟨k+1,by omega,by go_num,by rw[HF2.o],HN1⟩
  case measure=>simp[intOf];omega
open Go.Sort
theorem Qdr {a b:List Int}(hl:a.length=b.length)(hn:a≠b)(h:Zt a b=false):Zt b a=true:=by
 induction a generalizing b with
 |nil=>cases b with
  |nil=>exact absurd rfl hn
  |cons y b=>simp at hl
 |cons x a ih=>cases b with
  |nil=>simp at hl
  |cons y b=>
   unfold Zt at h ⊢
   by_cases e:x=y
   ·subst e
    rw[if_pos rfl] at h ⊢
    exact ih (by simpa using hl) (λe=>hn (by rw[e])) h
   ·rw[if_neg e] at h
    rw[if_neg (λh'=>e h'.symm)]
    simp at h ⊢
    omega
theorem Qem {a b:List Int}(hn:a≠b)(h:Vh a b=false):Vh b a=true:=by
 unfold Vh at h ⊢
 by_cases e:a.length=b.length
 ·rw[if_pos e] at h
  rw[if_pos e.symm]
  exact Qdr e hn h
 ·rw[if_neg e] at h
  rw[if_neg (λh'=>e h'.symm)]
  simp at h ⊢
  omega
def Tm (ws:List (List Int))(i:Nat)(x:List Int):List (List Int):=ws.take i++x::ws.drop i
theorem Yl {ws:List (List Int)}{i:Nat}(x:List Int)(h:i<=ws.length):(Tm ws i x).length=ws.length+1:=by
 simp[Tm];omega
theorem Zw {ws:List (List Int)}{i:Nat}(x:List Int)(h:i<=ws.length)(j:Nat):wd (Tm ws i x) j=if j<i then wd ws j else if j=i then x else wd ws (j-1):=by
 unfold wd Tm
 have hl:(ws.take i).length=i:=by rw[zX];omega
 by_cases c:j<i
 ·rw[if_pos c,List.getD,zT (by omega),zQ c];rfl
 ·rw[if_neg c,List.getD,yA (by omega),hl]
  by_cases d:j=i
  ·subst d
   rw[if_pos rfl];simp
  ·rw[if_neg d]
   obtain⟨m,rfl⟩:∃m,j=i+(m+1):=⟨j-i-1,by omega⟩
   rw[show i+(m+1)-i=m+1 by omega,List.getElem?_cons_succ,List.getElem?_drop,show i+(m+1)-1=i+m by omega];rfl
theorem Q9g {ws:List (List Int)}{x:List Int}{i:Nat}(ha:U1 ws)(h:Wl ws x i i)(hi:i<=ws.length)(hn:∀j,j<ws.length->wd ws j≠x):U1 (Tm ws i x):=by
 intro a b hab hb
 rw[Yl x hi] at hb
 rw[Zw x hi,Zw x hi]
 by_cases c1:b<i
 ·rw[if_pos c1,if_pos (by omega)];exact ha a b hab (by omega)
 ·rw[if_neg c1]
  by_cases c2:b=i
  ·subst c2
   rw[if_pos rfl,if_pos hab]
   exact h.1 a hab
  ·rw[if_neg c2]
   have hx:=Qem (hn (b-1) (by omega)) (h.2 (b-1) (by omega) (by omega))
   by_cases c3:a<i
   ·rw[if_pos c3];exact ha a (b-1) (by omega) (by omega)
   ·rw[if_neg c3]
    by_cases c4:a=i
    ·rw[if_pos c4];exact hx
    ·rw[if_neg c4];exact ha (a-1) (b-1) (by omega) (by omega)
def inW (ws:List (List Int))(x:List Int):Prop:=∃j,j<ws.length/\wd ws j=x
def Q4v (ws:List (List Int))(x:List Int)(ws':List (List Int)):Prop:=
 (inW ws x/\ws'=ws)\/(¬inW ws x/\∃i,i<=ws.length/\Wl ws x i i/\ws'=Tm ws i x)
theorem Q4v.asc {ws ws':List (List Int)}{x:List Int}(h:Q4v ws x ws')(ha:U1 ws):U1 ws':=by
 rcases h with⟨_,rfl⟩|⟨hn,i,hi,hp,rfl⟩
 ·exact ha
 ·exact Q9g ha hp hi λj hj e=>hn ⟨j,hj,e⟩
theorem Q4v.mem {ws ws':List (List Int)}{x:List Int}(h:Q4v ws x ws')(y:List Int):inW ws' y↔y=x\/inW ws y:=by
 rcases h with⟨h1,rfl⟩|⟨hn,i,hi,hp,rfl⟩
 ·exact⟨Or.inr,λh=>h.elim (λe=>e▸h1) id⟩
 ·constructor
  ·rintro⟨j,hj,e⟩
   rw[Yl x hi] at hj
   rw[Zw x hi] at e
   by_cases c:j<i
   ·rw[if_pos c] at e;exact oR ⟨j,by omega,e⟩
   ·rw[if_neg c] at e
    by_cases d:j=i
    ·rw[if_pos d] at e;exact oL e.symm
    ·rw[if_neg d] at e;exact oR ⟨j-1,by omega,e⟩
  ·rintro(rfl|⟨j,hj,e⟩)
   ·exact⟨i,by rw[Yl _ hi];omega,by rw[Zw _ hi,if_neg (yE _),if_pos rfl]⟩
   ·by_cases c:j<i
    ·exact⟨j,by rw[Yl x hi];omega,by rw[Zw x hi,if_pos c];exact e⟩
    ·exact⟨j+1,by rw[Yl x hi];omega,by rw[Zw x hi,if_neg (by omega),if_neg (by omega),Nat.add_sub_cancel];exact e⟩
theorem Q4v.len {ws ws':List (List Int)}{x:List Int}(h:Q4v ws x ws'):ws.length<=ws'.length/\ws'.length<=ws.length+1:=by
 rcases h with⟨_,rfl⟩|⟨hn,i,hi,hp,rfl⟩
 ·omega
 ·rw[Yl x hi];omega
def WR (B:Nat)(w0 w:World)(v:Value)(ws:List (List Int)):Prop:=
 ∃cs:List Value,w.ownsRow w0.heap.size 143 1 v ws.length cs/\∀i,i<ws.length->Qi B w0 (vat cs i) (wd ws i)/\G6 (vat cs i)
theorem WR.slice {B:Nat}{w0 w:World}{v:Value}{ws:List (List Int)}(h:WR B w0 w v ws):∃a c,v=sL a ws.length c:=by
 obtain⟨cs,h1,_⟩:=h
 rcases h1.2 with⟨rfl,h2⟩|⟨g,cap,cur,rfl,_⟩
 ·exact⟨none,0,by rw[h2]⟩
 ·exact⟨_,_,rfl⟩
theorem Xp {C ty sz:Nat}{w w':World}{v:Value}{n:Nat}{xs:List Value}(h:w.ownsRow C ty sz v n xs)(k:Nx w w'):w'.ownsRow C ty sz v n xs:=by
 obtain⟨h3,h4⟩:=h
 refine⟨h3,?_⟩
 rcases h4 with h4|⟨g,cap,cur,hv,hg,hh,r⟩
 ·exact oL h4
 ·exact oR ⟨g,cap,cur,hv,hg,(k.block g (Array.getElem?_eq_some_iff.1 hh).1).trans hh,r⟩
theorem WR.next {B:Nat}{w0 w w':World}{v:Value}{ws:List (List Int)}(h:WR B w0 w v ws)(k:Nx w w'):WR B w0 w' v ws:=by
 obtain⟨cs,h1,h2⟩:=h
 exact⟨cs,Xp h1 k,h2⟩
theorem WR.held {B:Nat}{w0 w:World}{v:Value}{ws:List (List Int)}(h:WR B w0 w v ws)(k:Nx w0 w):Jm 0 w v ws:=by
 obtain⟨cs,h1,h2⟩:=h
 obtain⟨h3,h4⟩:=h1
 rw[Nat.mul_one] at h3
 rcases h4 with⟨rfl,h4⟩|⟨g,cap,cur,rfl,hg,hh,hc,hm,hs,ht⟩
 ·unfold Jm
  rw[h4]
  exact⟨_,_,rfl,by simp[maxLen],λh=>by omega⟩
 ·refine⟨_,_,rfl,by omega,λh0=>⟨g,0,rfl,nZ,(Array.getElem?_eq_some_iff.1 hh).1,λi hi=>⟨vat cs i,?_,((h2 i hi).1.next k).base nZ,(h2 i hi).2⟩⟩⟩
  have e:(cur.toList.take (ws.length*1))[i]?=cs[i]?:=by rw[ht]
  rw[zQ (by omega),zN] at e
  show w.cell? (aD g (0+i))=_
  rw[Nat.zero_add]
  simp[World.cell?,hh,e,vat,List.getD,show i<cs.length by omega]
def OV (C:Nat)(w:World)(g n cap:Nat)(F:Nat->Value):Prop:=
 ∃cur,C<=g/\w.heap[g]?=some (.cells cur 143 (0,0))/\n<=cap/\cap<=maxLen/\cur.size=cap/\∀i,i<n->cur[i]?=some (F i)
theorem OV.of {C:Nat}{w:World}{v:Value}{n:Nat}{cs:List Value}(h:w.ownsRow C 143 1 v n cs)(h0:0<n):∃g cap,v=sL (sA g) n cap/\OV C w g n cap (vat cs):=by
 obtain⟨h3,h4⟩:=h
 rcases h4 with⟨_,h4⟩|⟨g,cap,cur,rfl,hg,hh,hc,hm,hs,ht⟩
 ·omega
 ·refine⟨g,cap,rfl,cur,hg,hh,hc,hm,by omega,λi hi=>?_⟩
  have e:(cur.toList.take (n*1))[i]?=cs[i]?:=by rw[ht]
  rw[zQ (by omega),zN] at e
  rw[e]
  simp[vat,List.getD,show i<cs.length by omega]
theorem OV.own {C:Nat}{w:World}{g n cap:Nat}{F:Nat->Value}(h:OV C w g n cap F):w.ownsRow C 143 1 (sL (sA g) n cap) n ((List.range n).map F):=by
 obtain⟨cur,hg,hh,hc,hm,hs,hF⟩:=h
 refine⟨by simp,.inr ⟨g,cap,cur,rfl,hg,hh,hc,hm,by omega,?_⟩⟩
 apply List.ext_getElem?
 intro i
 by_cases c:i<n
 ·rw[zQ (by omega),zN,hF i c]
  simp[c]
 ·rw[List.getElem?_eq_none (by simp;omega),List.getElem?_eq_none (by simp;omega)]
theorem OV.cell {C:Nat}{w:World}{g n cap:Nat}{F:Nat->Value}(h:OV C w g n cap F){i:Nat}(hi:i<n):w.cell? (aD g i)=some (F i):=by
 obtain⟨cur,hg,hh,hc,hm,hs,hF⟩:=h
 simp[World.cell?,hh,hF i hi]
theorem OV.frozen {C:Nat}{w:World}{g n cap:Nat}{F:Nat->Value}(h:OV C w g n cap F)(i:Nat):w.frozen? (aD g i)=false:=by
 obtain⟨cur,hg,hh,_⟩:=h
 simp[World.frozen?,hh]
theorem OV.ge {C:Nat}{w:World}{g n cap:Nat}{F:Nat->Value}(h:OV C w g n cap F):C<=g:=by
 obtain⟨cur,hg,_⟩:=h
 exact hg
theorem OV.set {C:Nat}{w:World}{g n cap:Nat}{F:Nat->Value}(h:OV C w g n cap F)(i:Nat)(x:Value):OV C (w.setCell (aD g i) x) g n cap (λj=>if j=i then x else F j):=by
 obtain⟨cur,hg,hh,hc,hm,hs,hF⟩:=h
 refine⟨cur.setIfInBounds i x,hg,by simp[World.setCell,Array.getElem?_modify,hh],hc,hm,by simpa using hs,λj hj=>?_⟩
 by_cases e:j=i
 ·subst e
  simp[show j<cur.size by omega]
 ·rw[Array.getElem?_setIfInBounds_ne (λh=>e h.symm),hF j hj]
  show some (F j)=some (if j=i then x else F j)
  rw[if_neg e]
theorem OV.congr {C:Nat}{w:World}{g n cap:Nat}{F G:Nat->Value}(h:OV C w g n cap F)(e:∀i,i<n->F i=G i):OV C w g n cap G:=by
 obtain⟨cur,hg,hh,hc,hm,hs,hF⟩:=h
 exact⟨cur,hg,hh,hc,hm,hs,λi hi=>by rw[hF i hi,e i hi]⟩
def shF (c:Nat->Value)(t k:Nat):Value:=if k<=t then c k else c (k-1)
theorem infoW:(prog.info? 143).map (λi=>(i.zero,i.size,i.bytes))=some (some (.agg #[sN]),1,24):=by kernel_rfl
def InsE (B:Nat)(w0 w':World)(ws:List (List Int))(x:List Int)(e:Ending):Prop:=∃v2 ws',e=.returned v2/\WR B w0 w' v2 ws'/\Q4v ws x ws'
theorem In (B:Nat)(w0 w:World)(v:Value)(xa:Option Addr)(xn xc:Nat)(ws:List (List Int))(x:List Int)(hW:WR B w0 w v ws)(hN:Nx w0 w)(hx:Qi B w0 (sL xa xn xc) x)(hxc:xn<=xc)(ha:U1 ws)(hl:ws.length<=100000)(h0:0<ws.length) :
  Calls prog 104 #[v,sL xa xn xc] w λe w'=>InsE B w0 w' ws x e/\Nx w0 w':=by
 obtain⟨ii,hi,hz0,hz1,hz2⟩:=info_parts infoW
 have HW:=mh hW
 have HN0:=mh hN
 have HX:=mh hx
 have HXC:=mh hxc
 have HA:=mh ha
 have HL:=mh hl
 obtain⟨va,vc,hvs⟩:=hW.slice
 subst hvs
 clear hx ha hN hW hxc
 go_enter func104,ntmps104
 go_wp2_with fail
 refine(Fd 0 B _ _ ws x _ (HW.o.held HN0.o) (HX.o.next HN0.o) HA.o (by have:=HL.o;omega)).mono ?_
 rintro e w1 ⟨⟨i,rfl,hin,hp⟩,hx1⟩
 have HN1:=mh (HN0.o.trans hx1)
 have HW1:=mh (HW.o.next hx1)
 have HP:=mh hp
 clear hp hx1 HW HN0
 have hH:=HW1.o.held HN1.o
 obtain⟨ha',hc',hev,hmx,hrow⟩:=hH
 simp only[zC] at hev
 obtain⟨rfl,_,rfl⟩:=hev
 unfold maxLen at hmx
 have HNO:Z ((i<ws.length->wd ws i≠x)->¬inW ws x):=by
  intro hne
  rintro⟨j,hj,ej⟩
  rcases Nat.lt_trichotomy j i with h1|rfl|h1
  ·have:=HP.o.1 j h1
   rw[ej,Vt] at this;cases this
  ·exact hne hj ej
  ·have h2:=HA.o i j h1 hj
   have h3:=HP.o.2 i lR (by omega)
   rw[ej] at h2
   rw[h2] at h3;cases h3
 generalize hz:ws.length=n at *
 have HZ:=mh hz
 clear hz
 obtain⟨b,off,rfl,_,hb,hc⟩:=hrow h0
 by_cases hlt:i<n
 ·obtain⟨vi,hci,hHi,cpi⟩:=hc i hlt
  have hlt':(i:Int)<n:=by omega
  obtain⟨a2,n2,c2,rfl,_⟩:=cpi
  have HHI:=mh hHi
  clear hc hHi
  go_wp2_with fail
  refine(Kp 0 B _ _ (wd ws i) x _ (by exact HHI.o) (by exact HX.o.next HN1.o)).mono ?_
  rintro e w2 ⟨rfl,hx2⟩
  have HNZ:=mh (HN1.o.trans hx2)
  have HWZ:=mh (HW1.o.next hx2)
  clear hx2 HW1 HN1 HHI hci hrow
  by_cases hsm:wd ws i=x
  ·have hd:decide (wd ws i=x)=true:=by simpa using hsm
   have HIN:Z (inW ws x):=⟨i,by rw[HZ.o];exact hlt,hsm⟩
   rw[hd]
   clear hsm hd
   go_wp2
   go_ret
   exact⟨⟨_,ws,rfl,HWZ.o,oL ⟨HIN.o,rfl⟩⟩,HNZ.o⟩
  have hd:decide (wd ws i=x)=false:=by simpa using hsm
  have HNI:=mh (HNO.o λ_=>hsm)
  rw[hd]
  clear hsm hd HNO
  obtain⟨cs,hown,hcs⟩:=HWZ.o
  have hcl:cs.length=n:=by have:=hown.1;rw[HZ.o] at this;omega
  rw[HZ.o] at hown hcs
  have HOWN:=mh hown
  have HCS:=mh hcs
  clear hown hcs HWZ
  go_wp2_with (at_builtin;refine wpList_append_own_at _ rfl _ _ 107 rfl w0.heap.size 143 ii (.agg #[sN]) 1 24 underlying107 hi hz0 hz1 hz2 rfl (by decide) _ _ _ rfl (zB HOWN.o _) (aD w2.heap.size 0) 1 1 [sL xa xn xc] rfl rfl ?c1 ?c2 ?c3 ?c4 ?c5 ?_)
  case c1=>exact λj u hj=>Qn w2 _ _ _ rfl j u hj
  case c2=>intro u hu;simp at hu;subst hu;rfl
  case c3=>have:=HL.o;unfold maxLen;omega
  case c4=>have:=HL.o;omega
  case c5=>have:=HNZ.o.size;simp;omega
  intro v7 w7 hown' hgrow _ _
  have HN7:Z (Nx w0 w7):=Below.grown (Below.alloc HNZ.o HNZ.o.size _) hgrow (by have:=HNZ.o.size;simp;omega) (λg hg=>(Q7 HOWN.o g hg).1)
  obtain⟨g,cap7,hv7,hov⟩:=OV.of hown' (by omega)
  subst hv7
  have HSL:Z (∀k,k<n+1->∃a n c,vat (cs++[sL xa xn xc]) k=sL a n c/\n<=c):=by
   intro k hk
   by_cases e:k<n
   ·have:vat (cs++[sL xa xn xc]) k=vat cs k:=by simp[vat,List.getD,List.getElem?_append_left (show k<cs.length by omega)]
    rw[this]
    exact(HCS.o k e).2
   ·have:vat (cs++[sL xa xn xc]) k=sL xa xn xc:=by rw[show k=cs.length by omega];simp[vat,List.getD]
    rw[this]
    exact⟨_,_,_,rfl,HXC.o⟩
  have HFIN:Z (∀k,k<n+1->Qi B w0 (if k=i then sL xa xn xc else shF (vat (cs++[sL xa xn xc])) i k) (wd (Tm ws i x) k)/\G6 (if k=i then sL xa xn xc else shF (vat (cs++[sL xa xn xc])) i k)):=by
   intro k hk
   rw[Zw x (by rw[HZ.o];exact hin)]
   unfold shF
   have hcc:∀q,q<n->vat (cs++[sL xa xn xc]) q=vat cs q:=λq hq=>by simp[vat,List.getD,List.getElem?_append_left (show q<cs.length by omega)]
   by_cases e1:k<i
   ·rw[if_neg (by omega),if_pos (by omega),if_pos e1,hcc k (by omega)]
    exact HCS.o k (by omega)
   ·rw[if_neg e1]
    by_cases e2:k=i
    ·rw[if_pos e2,if_pos e2]
     exact⟨HX.o,_,_,_,rfl,HXC.o⟩
    ·rw[if_neg e2,if_neg e2,if_neg (by omega),hcc (k-1) (by omega)]
     exact HCS.o (k-1) (by omega)
  have HOV:Z (OV w0.heap.size w7 g (n+1) cap7 (shF (vat (cs++[sL xa xn xc])) n)):=hov.congr λk hk=>by unfold shF;rw[if_pos (by omega)]
  have HGE:=mh hov.ge
  clear hown' hgrow hov HOWN HCS HNZ hcl
  generalize vat (cs++[sL xa xn xc])=c at *
  have hln:=HL.o
  have wn:IntKind.i64.wrap ((n:Int)+1-1)=(n:Int):=by rw[IntKind.wrap_i64];omega
  have wn2:((n:Int)+1-1)=(n:Int):=by omega
  have wn3:=Va n (by omega)
  go_wp2
  go_loopw [6] (λj wr=>∃t:Nat,i<=t/\t<=n/\j=iV t/\Z (OV w0.heap.size wr g (n+1) cap7 (shF c t))/\Z (Nx w0 wr)) (λj _=>(intOf j).toNat)
  case atStart=>exact⟨n,hin,lR,by go_num,HOV,HN7⟩
  clear HOV HN7
  obtain⟨t,hit,htn,rfl,HOV,HN⟩:=hrel
  by_cases hgt:i<t
  ·obtain⟨s,rfl⟩:∃s,t=s+1:=⟨t-1,by omega⟩
   have hgt':(i:Int)<(s:Int)+1:=by omega
   have y0:=HOV.o.cell (i:=s) (by omega)
   have y1:=HOV.o.cell (i:=s+1) (by omega)
   have y2:=HOV.o.frozen (s+1)
   have ws1:IntKind.i64.wrap ((s:Int)+1-1)=(s:Int):=by rw[IntKind.wrap_i64];omega
   have ws2:((s:Int)+1-1)=(s:Int):=by omega
   have ws3:=Va s (by omega)
   have hs1:(s:Int)<(n:Int)+1:=by omega
   have hs2:(s:Int)+1<(n:Int)+1:=by omega
   have es:shF c (s+1) s=c s:=by unfold shF;rw[if_pos (by omega)]
   rw[es] at y0
   obtain⟨qa,qn,qc,hq,_⟩:=HSL.o s (by omega)
   have HQ:=mh hq
   rw[hq] at y0
   clear es hq wn wn2 wn3
   go_wp2
   go_roundw
   case rel=>exact⟨s,by omega,by omega,by go_num,(HOV.o.set (s+1) (sL qa qn qc)).congr (λk hk=>by
     show(if k=s+1 then sL qa qn qc else shF c (s+1) k)=shF c s k
     unfold shF
     by_cases e:k=s+1
     ·subst e;rw[if_pos rfl,if_neg (by omega),Nat.add_sub_cancel,HQ.o]
     ·rw[if_neg e]
      by_cases e2:k<=s
      ·rw[if_pos (by omega),if_pos e2]
      ·rw[if_neg (by omega),if_neg e2]),Below.setCell HN.o HGE.o _⟩
   case measure=>simp[intOf]
  ·have et:t=i:=by omega
   subst et
   have y1:=HOV.o.cell (i:=t) (by omega)
   have y2:=HOV.o.frozen t
   have hs2:(t:Int)<(n:Int)+1:=by omega
   have hgt':¬(t:Int)<t:=by omega
   have HRES:Z (∀w8,OV w0.heap.size w8 g (n+1) cap7 (λk=>if k=t then sL xa xn xc else shF c t k)->WR B w0 w8 (sL (sA g) (n+1) cap7) (Tm ws t x)):=by
    intro w8 h8
    have hl8:(Tm ws t x).length=n+1:=by rw[Yl x (by rw[HZ.o];exact hin),HZ.o]
    refine⟨_,by rw[hl8];exact h8.own,λk hk=>?_⟩
    rw[hl8] at hk
    have:vat ((List.range (n+1)).map (λk=>if k=t then sL xa xn xc else shF c t k)) k=if k=t then sL xa xn xc else shF c t k:=by simp[vat,List.getD,hk]
    rw[this]
    exact HFIN.o k hk
   clear hgt wn wn2 wn3
   go_wp2
   go_ret
   exact⟨⟨_,_,rfl,HRES.o _ (HOV.o.set t (sL xa xn xc)),oR ⟨HNI.o,t,by rw[HZ.o];exact hin,HP.o,rfl⟩⟩,Below.setCell HN.o HGE.o _⟩
 ·have hlt2:¬(i:Int)<n:=by omega
  have HNI:=mh (HNO.o λh=>absurd h hlt)
  have HNZ:Z (Nx w0 w1):=HN1
  have HWZ:Z (WR B w0 w1 (sL (some (aD b off)) n vc) ws):=HW1
  clear hc HW1 HN1 HNO hrow
  obtain⟨cs,hown,hcs⟩:=HWZ.o
  have hcl:cs.length=n:=by have:=hown.1;rw[HZ.o] at this;omega
  rw[HZ.o] at hown hcs
  have HOWN:=mh hown
  have HCS:=mh hcs
  clear hown hcs HWZ
  go_wp2_with (at_builtin;refine wpList_append_own_at _ rfl _ _ 107 rfl w0.heap.size 143 ii (.agg #[sN]) 1 24 underlying107 hi hz0 hz1 hz2 rfl (by decide) _ _ _ rfl (zB HOWN.o _) (aD w1.heap.size 0) 1 1 [sL xa xn xc] rfl rfl ?c1 ?c2 ?c3 ?c4 ?c5 ?_)
  case c1=>exact λj u hj=>Qn w1 _ _ _ rfl j u hj
  case c2=>intro u hu;simp at hu;subst hu;rfl
  case c3=>have:=HL.o;unfold maxLen;omega
  case c4=>have:=HL.o;omega
  case c5=>have:=HNZ.o.size;simp;omega
  intro v7 w7 hown' hgrow _ _
  have HN7:Z (Nx w0 w7):=Below.grown (Below.alloc HNZ.o HNZ.o.size _) hgrow (by have:=HNZ.o.size;simp;omega) (λg hg=>(Q7 HOWN.o g hg).1)
  obtain⟨g,cap7,hv7,hov⟩:=OV.of hown' (by omega)
  subst hv7
  have HSL:Z (∀k,k<n+1->∃a n c,vat (cs++[sL xa xn xc]) k=sL a n c/\n<=c):=by
   intro k hk
   by_cases e:k<n
   ·have:vat (cs++[sL xa xn xc]) k=vat cs k:=by simp[vat,List.getD,List.getElem?_append_left (show k<cs.length by omega)]
    rw[this]
    exact(HCS.o k e).2
   ·have:vat (cs++[sL xa xn xc]) k=sL xa xn xc:=by rw[show k=cs.length by omega];simp[vat,List.getD]
    rw[this]
    exact⟨_,_,_,rfl,HXC.o⟩
  have HFIN:Z (∀k,k<n+1->Qi B w0 (if k=i then sL xa xn xc else shF (vat (cs++[sL xa xn xc])) i k) (wd (Tm ws i x) k)/\G6 (if k=i then sL xa xn xc else shF (vat (cs++[sL xa xn xc])) i k)):=by
   intro k hk
   rw[Zw x (by rw[HZ.o];exact hin)]
   unfold shF
   have hcc:∀q,q<n->vat (cs++[sL xa xn xc]) q=vat cs q:=λq hq=>by simp[vat,List.getD,List.getElem?_append_left (show q<cs.length by omega)]
   by_cases e1:k<i
   ·rw[if_neg (by omega),if_pos (by omega),if_pos e1,hcc k (by omega)]
    exact HCS.o k (by omega)
   ·rw[if_neg e1]
    by_cases e2:k=i
    ·rw[if_pos e2,if_pos e2]
     exact⟨HX.o,_,_,_,rfl,HXC.o⟩
    ·rw[if_neg e2,if_neg e2,if_neg (by omega),hcc (k-1) (by omega)]
     exact HCS.o (k-1) (by omega)
  have HOV:Z (OV w0.heap.size w7 g (n+1) cap7 (shF (vat (cs++[sL xa xn xc])) n)):=hov.congr λk hk=>by unfold shF;rw[if_pos (by omega)]
  have HGE:=mh hov.ge
  clear hown' hgrow hov HOWN HCS HNZ hcl
  generalize vat (cs++[sL xa xn xc])=c at *
  have hln:=HL.o
  have wn:IntKind.i64.wrap ((n:Int)+1-1)=(n:Int):=by rw[IntKind.wrap_i64];omega
  have wn2:((n:Int)+1-1)=(n:Int):=by omega
  have wn3:=Va n (by omega)
  go_wp2
  go_loopw [6] (λj wr=>∃t:Nat,i<=t/\t<=n/\j=iV t/\Z (OV w0.heap.size wr g (n+1) cap7 (shF c t))/\Z (Nx w0 wr)) (λj _=>(intOf j).toNat)
  case atStart=>exact⟨n,hin,lR,by go_num,HOV,HN7⟩
  clear HOV HN7
  obtain⟨t,hit,htn,rfl,HOV,HN⟩:=hrel
  by_cases hgt:i<t
  ·exfalso;omega
  ·have et:t=i:=by omega
   subst et
   have y1:=HOV.o.cell (i:=t) (by omega)
   have y2:=HOV.o.frozen t
   have hs2:(t:Int)<(n:Int)+1:=by omega
   have hgt':¬(t:Int)<t:=by omega
   have HRES:Z (∀w8,OV w0.heap.size w8 g (n+1) cap7 (λk=>if k=t then sL xa xn xc else shF c t k)->WR B w0 w8 (sL (sA g) (n+1) cap7) (Tm ws t x)):=by
    intro w8 h8
    have hl8:(Tm ws t x).length=n+1:=by rw[Yl x (by rw[HZ.o];exact hin),HZ.o]
    refine⟨_,by rw[hl8];exact h8.own,λk hk=>?_⟩
    rw[hl8] at hk
    have:vat ((List.range (n+1)).map (λk=>if k=t then sL xa xn xc else shF c t k)) k=if k=t then sL xa xn xc else shF c t k:=by simp[vat,List.getD,hk]
    rw[this]
    exact HFIN.o k hk
   clear hgt wn wn2 wn3
   go_wp2
   go_ret
   exact⟨⟨_,_,rfl,HRES.o _ (HOV.o.set t (sL xa xn xc)),oR ⟨HNI.o,t,by rw[HZ.o];exact hin,HP.o,rfl⟩⟩,Below.setCell HN.o HGE.o _⟩
def Py (x:Ru):Nat:=if x.only then x.seq.length-1 else x.seq.length
def PW (rs:List Ru)(i k:Nat)(y:List Int):Prop:=
 y=[]\/(∃j,j<i/\∃q,1<=q/\q<=Py (J2 rs j)/\y=(J2 rs j).seq.take q)\/∃q,1<=q/\q<k/\y=(J2 rs i).seq.take q
structure WI (rs:List Ru)(i k:Nat)(ws:List (List Int)):Prop where
 asc:U1 ws
 l0:0<ws.length
 l1:ws.length<=2001
 yes:∀y,inW ws y->PW rs i k y
 all:ws.length<=2000->∀y,PW rs i k y->inW ws y
theorem PW.up {rs:List Ru}{i k:Nat}{y:List Int}(h:PW rs i k y):PW rs i (k+1) y:=by
 rcases h with h|h|⟨q,h1,h2,h3⟩
 ·exact oL h
 ·exact oR (oL h)
 ·exact oR (oR ⟨q,h1,by omega,h3⟩)
theorem WI.start (rs:List Ru):WI rs 0 1 [[]]:=by
 refine⟨λi j h1 h2=>by simp at h2;omega,by simp,by simp,λy h=>?_,λ_ y h=>?_⟩
 ·obtain⟨j,hj,e⟩:=h
  simp at hj
  subst hj
  exact oL e.symm
 ·rcases h with rfl|⟨j,hj,_⟩|⟨q,h1,h2,_⟩
  ·exact⟨0,by simp,rfl⟩
  ·omega
  ·omega
theorem WI.step {rs:List Ru}{i k:Nat}{ws ws':List (List Int)}{x:List Int}(h:WI rs i k ws)(hI:Q4v ws x ws')(hx:x=(J2 rs i).seq.take k)(hl:ws.length<=2000)(hk:1<=k:=by omega):WI rs i (k+1) ws':=by
 have hlen:=hI.len
 refine⟨hI.asc h.asc,by have:=h.l0;omega,by omega,λy hy=>?_,λ_ y hy=>?_⟩
 ·rcases (hI.mem y).1 hy with rfl|hy
  ·exact oR (oR ⟨k,hk,Nat.lt_succ_self _,hx⟩)
  ·exact(h.yes y hy).up
 ·refine(hI.mem y).2 ?_
  rcases hy with hy|hy|⟨q,h1,h2,h3⟩
  ·exact oR (h.all hl y (oL hy))
  ·exact oR (h.all hl y (oR (oL hy)))
  ·by_cases e:q=k
   ·subst e;exact oL (h3.trans hx.symm)
   ·exact oR (h.all hl y (oR (oR ⟨q,h1,by omega,h3⟩)))
theorem WI.skip {rs:List Ru}{i k:Nat}{ws:List (List Int)}(h:WI rs i k ws)(hl:¬ws.length<=2000):WI rs i (k+1) ws:=
 ⟨h.asc,h.l0,h.l1,λy hy=>(h.yes y hy).up,λh'=>absurd h' hl⟩
theorem WI.close {rs:List Ru}{i m:Nat}{ws:List (List Int)}(h:WI rs i (m+1) ws)(hm:Py (J2 rs i)=m):WI rs (i+1) 1 ws:=by
 refine⟨h.asc,h.l0,h.l1,λy hy=>?_,λhl y hy=>h.all hl y ?_⟩
 ·rcases h.yes y hy with h1|⟨j,hj,q,h1,h2,h3⟩|⟨q,h1,h2,h3⟩
  ·exact oL h1
  ·exact oR (oL ⟨j,by omega,q,h1,h2,h3⟩)
  ·exact oR (oL ⟨i,by omega,q,h1,by omega,h3⟩)
 ·rcases hy with h1|⟨j,hj,q,h1,h2,h3⟩|⟨q,h1,h2,h3⟩
  ·exact oL h1
  ·by_cases e:j=i
   ·subst e;exact oR (oR ⟨q,h1,by omega,h3⟩)
   ·exact oR (oL ⟨j,by omega,q,h1,h2,h3⟩)
  ·omega
def WdE (B:Nat)(rs:List Ru)(w w':World)(e:Ending):Prop:=∃v2 ws,e=.returned v2/\WR B w w' v2 ws/\WI rs rs.length 1 ws
theorem Q3y (B:Nat)(v:Value)(rs:List Ru)(w:World)(h0:Zl B w v rs)(hg:∀i,i<rs.length->2<=(J2 rs i).seq.length/\(J2 rs i).seq.length<=402) :
  Calls prog 89 #[v] w λe w'=>WdE B rs w w' e/\Nx w w':=by
 have HGD:=mh hg
 clear hg
 obtain⟨a,cap,rfl,hn,hk⟩:=h0
 unfold maxLen at hn
 generalize hz:rs.length=n at *
 have HZ:=mh hz
 clear hz
 have HWR0:Z (WR B w ((w.alloc (.cells #[] 2)).alloc (.cells #[sL (sA w.heap.size) 0 0] 143)) (sL (sA (w.heap.size+1)) 1 1) [[]]):=by
  refine⟨[sL (sA w.heap.size) 0 0],⟨rfl,.inr ⟨w.heap.size+1,1,#[sL (sA w.heap.size) 0 0],rfl,Nat.le_succ _,?_,lR,by simp[maxLen],by simp,by simp⟩⟩,λi hi=>?_⟩
  ·show((w.heap.push _).push _)[w.heap.size+1]?=_
   rw[Array.getElem?_push,if_pos (by simp)]
  ·have e:i=0:=by simpa using hi
   subst e
   exact⟨⟨_,_,rfl,by simp[maxLen,wd],λh=>by simp[wd] at h⟩,_,_,_,rfl,lR⟩
 go_enter func89,ntmps89
 go_wp2
 go_loopw [3,4,5,6] (λu i _ _ wr=>∃(k:Nat) (ws:List (List Int)),k<=n/\i=iV k/\Z (WR B w wr u ws)/\Z (Nx w wr)/\Z (WI rs k 1 ws)) (λ_ i _ _ _=>n-(intOf i).toNat)
 case atStart=>exact⟨0,_,nZ,rfl,HWR0,Uk _ _ _,WI.start rs⟩
 clear HWR0
 obtain⟨k,ws0,hkn,rfl,HWR,HN,HWI⟩:=hrel
 by_cases hlt:k<n
 case neg=>
  have ek:n=k:=by omega
  have HF:Z (WI rs rs.length 1 ws0):=by rw[HZ.o,ek];exact HWI.o
  clear ek
  obtain⟨va,vc,hvs⟩:=HWR.o.slice
  subst hvs
  go_wp2
  go_ret
  exact⟨⟨_,ws0,rfl,HWR.o,HF.o⟩,HN.o⟩
 obtain⟨b,off,rfl,_,hb,hc⟩:=hk (by omega)
 obtain⟨sa,sc,c0',c1',c2',hS,hcap⟩:=hc k hlt
 have C0:=mh c2'
 have c1:=F0 HN.o c1'
 have c2:=F0 HN.o c2'
 have hlt':(k:Int)<n:=by omega
 have h2:=HGD.o k hlt
 have HS:=mh hS
 have HMO0:Z (Py (J2 rs k)=if (J2 rs k).only=true then (J2 rs k).seq.length-1 else (J2 rs k).seq.length):=rfl
 clear hc hk c0' c1' c2' hS HGD
 generalize hx:J2 rs k=x at *
 have HX:=mh hx
 clear hx
 generalize hq:x.seq.length=m at *
 clear hq
 obtain⟨p,rfl⟩:∃p,m=p+1:=⟨m-1,by omega⟩
 have w1:IntKind.i64.wrap ((p:Int)+1-1)=(p:Int):=by rw[IntKind.wrap_i64];omega
 have w2:((p:Int)+1-1)=(p:Int):=by omega
 have wp:=Va p (by omega)
 cases g1:x.only
 case true=>
  have HMO:Z (Py x=p):=by unfold Z;rw[HMO0.o,g1,if_pos rfl];rfl
  rw[g1] at c1
  clear g1 HMO0
  go_wp2
  go_loopw [3,6] (λu j wz=>∃(q:Nat) (ws:List (List Int)),1<=q/\q<=p+1/\j=iV q/\Z (WR B w wz u ws)/\Z (Nx w wz)/\Z (WI rs k q ws)) (λ_ j _=>p+1-(intOf j).toNat)
  case atStart=>exact⟨1,_,lR,by omega,rfl,HWR,HN,HWI⟩
  clear HWR HWI HN
  obtain⟨q,ws,hq1,hqm,rfl,HWR,HN,HWI⟩:=hrel
  obtain⟨va,vc,hvs⟩:=HWR.o.slice
  subst hvs
  have c0:=F0 HN.o C0.o
  by_cases hql:q<=p
  ·have hql':(q:Int)<=p:=by omega
   have hqc:(q:Int)<=sc:=by omega
   have hql2:=HWI.o.l1
   by_cases hle:ws.length<=2000
   ·have hle':decide ((ws.length:Int)<=2000)=true:=by simp;omega
    have HXQ:Z (Qi B w (sL sa q sc) (x.seq.take q)):=HS.o.take (by omega) _
    go_wp2_with fail
    refine(In B w _ _ _ _ _ ws (x.seq.take q) (by exact HWR.o) HN.o (by exact HXQ.o) (by omega) HWI.o.asc (by omega) HWI.o.l0).mono ?_
    rintro e w1 ⟨⟨v2,ws',rfl,hW',hI⟩,hx⟩
    have HW1:=mh hW'
    have HN1:=mh hx
    have HI1:=mh (HWI.o.step hI (by rw[HX.o]) hle)
    clear hW' hI hx
    go_wp2
    go_roundw
    case rel=>exact⟨q+1,_,by omega,by omega,by go_num,HW1,HN1,HI1⟩
    case measure=>simp[intOf];omega
   ·have hle':decide ((ws.length:Int)<=2000)=false:=by simp;omega
    have HI1:=mh (HWI.o.skip hle)
    go_wp2
    go_roundw
    case rel=>exact⟨q+1,_,by omega,by omega,by go_num,HWR,HN,HI1⟩
    case measure=>simp[intOf];omega
  ·have eq:q=p+1:=by omega
   have HI1:=mh ((eq▸HWI.o).close (by rw[HX.o];exact HMO.o))
   have hql':¬(q:Int)<=p:=by omega
   clear eq
   go_wp2
   go_roundw
   case rel=>exact⟨k+1,_,by omega,by go_num,HWR,HN,HI1⟩
   case measure=>simp[intOf];omega
 case false=>
  have HMO:Z (Py x=p+1):=by unfold Z;rw[HMO0.o,g1];rfl
  rw[g1] at c1
  clear g1 HMO0
  generalize hmm:p+1=m at *
  have hmi:(p:Int)+1=m:=by omega
  rw[hmi] at *
  clear hmm hmi w1 w2 wp
  go_wp2
  go_loopw [3,6] (λu j wz=>∃(q:Nat) (ws:List (List Int)),1<=q/\q<=m+1/\j=iV q/\Z (WR B w wz u ws)/\Z (Nx w wz)/\Z (WI rs k q ws)) (λ_ j _=>m+1-(intOf j).toNat)
  case atStart=>exact⟨1,_,lR,by omega,rfl,HWR,HN,HWI⟩
  clear HWR HWI HN
  obtain⟨q,ws,hq1,hqm,rfl,HWR,HN,HWI⟩:=hrel
  obtain⟨va,vc,hvs⟩:=HWR.o.slice
  subst hvs
  have c0:=F0 HN.o C0.o
  by_cases hql:q<=m
  ·have hql':(q:Int)<=m:=by omega
   have hqc:(q:Int)<=sc:=by omega
   have hql2:=HWI.o.l1
   by_cases hle:ws.length<=2000
   ·have hle':decide ((ws.length:Int)<=2000)=true:=by simp;omega
    have HXQ:Z (Qi B w (sL sa q sc) (x.seq.take q)):=HS.o.take (by omega) _
    go_wp2_with fail
    refine(In B w _ _ _ _ _ ws (x.seq.take q) (by exact HWR.o) HN.o (by exact HXQ.o) (by omega) HWI.o.asc (by omega) HWI.o.l0).mono ?_
    rintro e w1 ⟨⟨v2,ws',rfl,hW',hI⟩,hx⟩
    have HW1:=mh hW'
    have HN1:=mh hx
    have HI1:=mh (HWI.o.step hI (by rw[HX.o]) hle)
    clear hW' hI hx
    go_wp2
    go_roundw
    case rel=>exact⟨q+1,_,by omega,by omega,by go_num,HW1,HN1,HI1⟩
    case measure=>simp[intOf];omega
   ·have hle':decide ((ws.length:Int)<=2000)=false:=by simp;omega
    have HI1:=mh (HWI.o.skip hle)
    go_wp2
    go_roundw
    case rel=>exact⟨q+1,_,by omega,by omega,by go_num,HWR,HN,HI1⟩
    case measure=>simp[intOf];omega
  ·have eq:q=m+1:=by omega
   have HI1:=mh ((eq▸HWI.o).close (by rw[HX.o];exact HMO.o))
   have hql':¬(q:Int)<=m:=by omega
   clear eq
   go_wp2
   go_roundw
   case rel=>exact⟨k+1,_,by omega,by go_num,HWR,HN,HI1⟩
   case measure=>simp[intOf];omega
end Go.Proofs.YtphiaobccollhaaGreat
namespace Go
set_option maxHeartbeats 16000000
end Go
namespace Go.Proofs.YtphiaobccollhaaGreat
set_option maxHeartbeats 16000000
open Go.RowKit Go.Sort Tryz
set_option linter.unusedVariables false
set_option maxRecDepth 100000
theorem Qbm:(prog.info? 4).map (λi=>(i.zero,i.size,i.bytes))=some (some (.bool false),1,1):=by kernel_rfl
def Tf (bs:List Bool):List Value:=bs.map λb=>.bool b
def An (C:Nat)(w:World)(v:Value)(bs:List Bool):Prop:=w.ownsRow C 4 1 v bs.length (Tf bs)
theorem An.snoc {B:Nat}{w:World}{v:Value}{bs:List Bool}{z:Bool}(h:w.ownsRow B 4 1 v (bs.length+1) (Tf bs++[.bool z])):An B w v (bs++[z]):=by
 unfold An
 have e:Tf (bs++[z])=Tf bs++[.bool z]:=by simp[Tf]
 rw[zA,e]
 exact h
theorem An.slice {B:Nat}{w:World}{v:Value}{bs:List Bool}(h:An B w v bs):∃a c,v=sL a bs.length c:=by
 rcases h.2 with⟨rfl,h2⟩|⟨g,cap,cur,rfl,_⟩
 ·exact⟨none,0,by rw[h2]⟩
 ·exact⟨_,_,rfl⟩
theorem Q9p {bs:List Bool}{i:Nat}(hi:i<bs.length):(Tf bs)[i]?=some (.bool (bat bs i)):=by rw[Qgg hi];simp[Tf,hi]
theorem An.held {B:Nat}{w:World}{v:Value}{bs:List Bool}(h:An B w v bs):Pk B w v bs:=by
 obtain⟨h1,h2⟩:=h
 rcases h2 with⟨rfl,h3⟩|⟨g,cap,cur,rfl,hg,hh,hc,hm,hs,ht⟩
 ·unfold Pk
  rw[h3]
  exact⟨_,_,rfl,nZ,λh=>absurd h (yE _)⟩
 ·refine⟨_,_,rfl,by omega,λh0=>⟨g,0,rfl,hg,(Array.getElem?_eq_some_iff.1 hh).1,λi hi=>?_⟩⟩
  have e:(cur.toList.take (bs.length*1))[i]?=(Tf bs)[i]?:=by rw[ht]
  rw[zQ (by omega),Q9p hi,zN] at e
  show w.cell? (aD g (0+i))=_
  rw[Nat.zero_add]
  simp[World.cell?,hh,e]
theorem V8 {p q:Value}(h:∀b,p.ownBlock=some b->q.ownBlock≠some b):q.ownBlock=none\/q.ownBlock≠p.ownBlock:=by
 cases e:q.ownBlock with
 |none=>exact oL rfl
 |some b=>exact oR λh'=>h b h'.symm e
theorem J7 {p q:Value}(h:∀b,p.ownBlock=some b->q.ownBlock≠some b):∀b,q.ownBlock=some b->p.ownBlock≠some b:=λb h1 h2=>h b h2 h1
theorem V9 {p q v:Value}{w:World}{o:Obj}(h:∀b,p.ownBlock=some b->q.ownBlock≠some b)(hat:v.ownBlock=p.ownBlock\/v.ownBlock=some (w.alloc o).heap.size)(hq:∀b,q.ownBlock=some b->b<w.heap.size):∀b,v.ownBlock=some b->q.ownBlock≠some b:=by
 intro b hb hb'
 rcases hat with e|e
 ·exact h b (e▸hb) hb'
 ·rw[e] at hb
  have h1:=zE hb
  have h2:=hq b hb'
  rw[Q1] at h1
  omega
structure R5 (C g:Nat)(w:World)(p0 p1 p2 p3 p4:Value)(A:Au):Prop where
 gc:g<C
 bx:Blk w g #[p0,p1,p2,p3,p4]
 o0:Q5 C w p0 A.pa
 o1:Q5 C w p1 A.la
 o2:Q5 C w p2 A.fa
 o3:Q5 C w p3 A.mu
 o4:An C w p4 A.bd
 a01:∀b,p0.ownBlock=some b->p1.ownBlock≠some b
 a02:∀b,p0.ownBlock=some b->p2.ownBlock≠some b
 a03:∀b,p0.ownBlock=some b->p3.ownBlock≠some b
 a12:∀b,p1.ownBlock=some b->p2.ownBlock≠some b
 a13:∀b,p1.ownBlock=some b->p3.ownBlock≠some b
 a23:∀b,p2.ownBlock=some b->p3.ownBlock≠some b
theorem R5.next {C g:Nat}{w:World}{p0 p1 p2 p3 p4:Value}{A:Au}{w':World}(h:R5 C g w p0 p1 p2 p3 p4 A)(k:Nx w w'):R5 C g w' p0 p1 p2 p3 p4 A:=
 ⟨h.gc,h.bx.next k,Xp h.o0 k,Xp h.o1 k,Xp h.o2 k,Xp h.o3 k,Xp h.o4 k,h.a01,h.a02,h.a03,h.a12,h.a13,h.a23⟩
theorem R5.app0 {C g:Nat}{w:World}{p0 p1 p2 p3 p4:Value}{A:Au}{w':World}{v:Value}{z:Int}(h:R5 C g w p0 p1 p2 p3 p4 A)(ob:Obj)(hown:w'.ownsRow C 2 1 v (A.pa.length+1) (J0 A.pa++[iV z]))(hgr:(w.alloc ob).grownBy w' p0.ownBlock)(hat:v.ownBlock=p0.ownBlock\/v.ownBlock=some (w.alloc ob).heap.size) :
  R5 C g (w'.setCell (aD g 0) v) v p1 p2 p3 p4 { A with pa:=A.pa++[z] }:=
 ⟨h.gc,(Blk.grown (h.bx.alloc ob) hgr (λe=>by have:=(Q7 h.o0 _ e.symm).1;have:=h.gc;omega)).set 0 v,
  Qc (Q5.snoc hown) h.gc 0 _,
  Qc (zL (zB h.o1 ob) hgr (V8 h.a01)) h.gc 0 _,
  Qc (zL (zB h.o2 ob) hgr (V8 h.a02)) h.gc 0 _,
  Qc (zL (zB h.o3 ob) hgr (V8 h.a03)) h.gc 0 _,
  Qc (zL (zB h.o4 ob) hgr (Yr h.o4 h.o0 (by decide))) h.gc 0 _,
  V9 h.a01 hat (λb e=>(Q7 h.o1 b e).2),
  V9 h.a02 hat (λb e=>(Q7 h.o2 b e).2),
  V9 h.a03 hat (λb e=>(Q7 h.o3 b e).2),
  h.a12,
  h.a13,
  h.a23⟩
theorem R5.box0 {C g:Nat}{w:World}{p0 p1 p2 p3 p4:Value}{A:Au}{w':World}(h:R5 C g w p0 p1 p2 p3 p4 A)(ob:Obj)(hgr:(w.alloc ob).grownBy w' p0.ownBlock):w'.cell? (aD g 0)=some p0/\w'.frozen? (aD g 0)=false:=by
 have:=Blk.grown (h.bx.alloc ob) hgr (λe=>by have:=(Q7 h.o0 _ e.symm).1;have:=h.gc;omega)
 exact⟨this.c 0 rfl,this.frozen 0⟩
theorem R5.low0 {C g:Nat}{w:World}{p0 p1 p2 p3 p4:Value}{A:Au}{w0 w':World}{v:Value}(h:R5 C g w p0 p1 p2 p3 p4 A)(ob:Obj)(hgr:(w.alloc ob).grownBy w' p0.ownBlock)(hb:Below g w0 w):Below g w0 (w'.setCell (aD g 0) v):=
 Below.setCell (Below.grown (Below.alloc hb (Nat.le_of_lt h.bx.lt) ob) hgr (by have:=h.bx.lt;rw[Q1];omega) (λb e=>by have:=(Q7 h.o0 b e).1;have:=h.gc;omega)) lR _
theorem R5.app1 {C g:Nat}{w:World}{p0 p1 p2 p3 p4:Value}{A:Au}{w':World}{v:Value}{z:Int}(h:R5 C g w p0 p1 p2 p3 p4 A)(ob:Obj)(hown:w'.ownsRow C 2 1 v (A.la.length+1) (J0 A.la++[iV z]))(hgr:(w.alloc ob).grownBy w' p1.ownBlock)(hat:v.ownBlock=p1.ownBlock\/v.ownBlock=some (w.alloc ob).heap.size) :
  R5 C g (w'.setCell (aD g 1) v) p0 v p2 p3 p4 { A with la:=A.la++[z] }:=
 ⟨h.gc,(Blk.grown (h.bx.alloc ob) hgr (λe=>by have:=(Q7 h.o1 _ e.symm).1;have:=h.gc;omega)).set 1 v,
  Qc (zL (zB h.o0 ob) hgr (V8 (J7 h.a01))) h.gc 1 _,
  Qc (Q5.snoc hown) h.gc 1 _,
  Qc (zL (zB h.o2 ob) hgr (V8 h.a12)) h.gc 1 _,
  Qc (zL (zB h.o3 ob) hgr (V8 h.a13)) h.gc 1 _,
  Qc (zL (zB h.o4 ob) hgr (Yr h.o4 h.o1 (by decide))) h.gc 1 _,
  J7 (V9 (J7 h.a01) hat (λb e=>(Q7 h.o0 b e).2)),
  h.a02,
  h.a03,
  V9 h.a12 hat (λb e=>(Q7 h.o2 b e).2),
  V9 h.a13 hat (λb e=>(Q7 h.o3 b e).2),
  h.a23⟩
theorem R5.box1 {C g:Nat}{w:World}{p0 p1 p2 p3 p4:Value}{A:Au}{w':World}(h:R5 C g w p0 p1 p2 p3 p4 A)(ob:Obj)(hgr:(w.alloc ob).grownBy w' p1.ownBlock):w'.cell? (aD g 1)=some p1/\w'.frozen? (aD g 1)=false:=by
 have:=Blk.grown (h.bx.alloc ob) hgr (λe=>by have:=(Q7 h.o1 _ e.symm).1;have:=h.gc;omega)
 exact⟨this.c 1 rfl,this.frozen 1⟩
theorem R5.low1 {C g:Nat}{w:World}{p0 p1 p2 p3 p4:Value}{A:Au}{w0 w':World}{v:Value}(h:R5 C g w p0 p1 p2 p3 p4 A)(ob:Obj)(hgr:(w.alloc ob).grownBy w' p1.ownBlock)(hb:Below g w0 w):Below g w0 (w'.setCell (aD g 1) v):=
 Below.setCell (Below.grown (Below.alloc hb (Nat.le_of_lt h.bx.lt) ob) hgr (by have:=h.bx.lt;rw[Q1];omega) (λb e=>by have:=(Q7 h.o1 b e).1;have:=h.gc;omega)) lR _
theorem R5.app2 {C g:Nat}{w:World}{p0 p1 p2 p3 p4:Value}{A:Au}{w':World}{v:Value}{z:Int}(h:R5 C g w p0 p1 p2 p3 p4 A)(ob:Obj)(hown:w'.ownsRow C 2 1 v (A.fa.length+1) (J0 A.fa++[iV z]))(hgr:(w.alloc ob).grownBy w' p2.ownBlock)(hat:v.ownBlock=p2.ownBlock\/v.ownBlock=some (w.alloc ob).heap.size) :
  R5 C g (w'.setCell (aD g 2) v) p0 p1 v p3 p4 { A with fa:=A.fa++[z] }:=
 ⟨h.gc,(Blk.grown (h.bx.alloc ob) hgr (λe=>by have:=(Q7 h.o2 _ e.symm).1;have:=h.gc;omega)).set 2 v,
  Qc (zL (zB h.o0 ob) hgr (V8 (J7 h.a02))) h.gc 2 _,
  Qc (zL (zB h.o1 ob) hgr (V8 (J7 h.a12))) h.gc 2 _,
  Qc (Q5.snoc hown) h.gc 2 _,
  Qc (zL (zB h.o3 ob) hgr (V8 h.a23)) h.gc 2 _,
  Qc (zL (zB h.o4 ob) hgr (Yr h.o4 h.o2 (by decide))) h.gc 2 _,
  h.a01,
  J7 (V9 (J7 h.a02) hat (λb e=>(Q7 h.o0 b e).2)),
  h.a03,
  J7 (V9 (J7 h.a12) hat (λb e=>(Q7 h.o1 b e).2)),
  h.a13,
  V9 h.a23 hat (λb e=>(Q7 h.o3 b e).2)⟩
theorem R5.box2 {C g:Nat}{w:World}{p0 p1 p2 p3 p4:Value}{A:Au}{w':World}(h:R5 C g w p0 p1 p2 p3 p4 A)(ob:Obj)(hgr:(w.alloc ob).grownBy w' p2.ownBlock):w'.cell? (aD g 2)=some p2/\w'.frozen? (aD g 2)=false:=by
 have:=Blk.grown (h.bx.alloc ob) hgr (λe=>by have:=(Q7 h.o2 _ e.symm).1;have:=h.gc;omega)
 exact⟨this.c 2 rfl,this.frozen 2⟩
theorem R5.low2 {C g:Nat}{w:World}{p0 p1 p2 p3 p4:Value}{A:Au}{w0 w':World}{v:Value}(h:R5 C g w p0 p1 p2 p3 p4 A)(ob:Obj)(hgr:(w.alloc ob).grownBy w' p2.ownBlock)(hb:Below g w0 w):Below g w0 (w'.setCell (aD g 2) v):=
 Below.setCell (Below.grown (Below.alloc hb (Nat.le_of_lt h.bx.lt) ob) hgr (by have:=h.bx.lt;rw[Q1];omega) (λb e=>by have:=(Q7 h.o2 b e).1;have:=h.gc;omega)) lR _
theorem R5.app3 {C g:Nat}{w:World}{p0 p1 p2 p3 p4:Value}{A:Au}{w':World}{v:Value}{z:Int}(h:R5 C g w p0 p1 p2 p3 p4 A)(ob:Obj)(hown:w'.ownsRow C 2 1 v (A.mu.length+1) (J0 A.mu++[iV z]))(hgr:(w.alloc ob).grownBy w' p3.ownBlock)(hat:v.ownBlock=p3.ownBlock\/v.ownBlock=some (w.alloc ob).heap.size) :
  R5 C g (w'.setCell (aD g 3) v) p0 p1 p2 v p4 { A with mu:=A.mu++[z] }:=
 ⟨h.gc,(Blk.grown (h.bx.alloc ob) hgr (λe=>by have:=(Q7 h.o3 _ e.symm).1;have:=h.gc;omega)).set 3 v,
  Qc (zL (zB h.o0 ob) hgr (V8 (J7 h.a03))) h.gc 3 _,
  Qc (zL (zB h.o1 ob) hgr (V8 (J7 h.a13))) h.gc 3 _,
  Qc (zL (zB h.o2 ob) hgr (V8 (J7 h.a23))) h.gc 3 _,
  Qc (Q5.snoc hown) h.gc 3 _,
  Qc (zL (zB h.o4 ob) hgr (Yr h.o4 h.o3 (by decide))) h.gc 3 _,
  h.a01,
  h.a02,
  J7 (V9 (J7 h.a03) hat (λb e=>(Q7 h.o0 b e).2)),
  h.a12,
  J7 (V9 (J7 h.a13) hat (λb e=>(Q7 h.o1 b e).2)),
  J7 (V9 (J7 h.a23) hat (λb e=>(Q7 h.o2 b e).2))⟩
theorem R5.box3 {C g:Nat}{w:World}{p0 p1 p2 p3 p4:Value}{A:Au}{w':World}(h:R5 C g w p0 p1 p2 p3 p4 A)(ob:Obj)(hgr:(w.alloc ob).grownBy w' p3.ownBlock):w'.cell? (aD g 3)=some p3/\w'.frozen? (aD g 3)=false:=by
 have:=Blk.grown (h.bx.alloc ob) hgr (λe=>by have:=(Q7 h.o3 _ e.symm).1;have:=h.gc;omega)
 exact⟨this.c 3 rfl,this.frozen 3⟩
theorem R5.low3 {C g:Nat}{w:World}{p0 p1 p2 p3 p4:Value}{A:Au}{w0 w':World}{v:Value}(h:R5 C g w p0 p1 p2 p3 p4 A)(ob:Obj)(hgr:(w.alloc ob).grownBy w' p3.ownBlock)(hb:Below g w0 w):Below g w0 (w'.setCell (aD g 3) v):=
 Below.setCell (Below.grown (Below.alloc hb (Nat.le_of_lt h.bx.lt) ob) hgr (by have:=h.bx.lt;rw[Q1];omega) (λb e=>by have:=(Q7 h.o3 b e).1;have:=h.gc;omega)) lR _
theorem R5.app4 {C g:Nat}{w:World}{p0 p1 p2 p3 p4:Value}{A:Au}{w':World}{v:Value}{z:Bool}(h:R5 C g w p0 p1 p2 p3 p4 A)(ob:Obj)(hown:w'.ownsRow C 4 1 v (A.bd.length+1) (Tf A.bd++[.bool z]))(hgr:(w.alloc ob).grownBy w' p4.ownBlock)(hat:v.ownBlock=p4.ownBlock\/v.ownBlock=some (w.alloc ob).heap.size) :
  R5 C g (w'.setCell (aD g 4) v) p0 p1 p2 p3 v { A with bd:=A.bd++[z] }:=
 ⟨h.gc,(Blk.grown (h.bx.alloc ob) hgr (λe=>by have:=(Q7 h.o4 _ e.symm).1;have:=h.gc;omega)).set 4 v,
  Qc (zL (zB h.o0 ob) hgr (Yr h.o0 h.o4 (by decide))) h.gc 4 _,
  Qc (zL (zB h.o1 ob) hgr (Yr h.o1 h.o4 (by decide))) h.gc 4 _,
  Qc (zL (zB h.o2 ob) hgr (Yr h.o2 h.o4 (by decide))) h.gc 4 _,
  Qc (zL (zB h.o3 ob) hgr (Yr h.o3 h.o4 (by decide))) h.gc 4 _,
  Qc (An.snoc hown) h.gc 4 _,
  h.a01,
  h.a02,
  h.a03,
  h.a12,
  h.a13,
  h.a23⟩
theorem R5.box4 {C g:Nat}{w:World}{p0 p1 p2 p3 p4:Value}{A:Au}{w':World}(h:R5 C g w p0 p1 p2 p3 p4 A)(ob:Obj)(hgr:(w.alloc ob).grownBy w' p4.ownBlock):w'.cell? (aD g 4)=some p4/\w'.frozen? (aD g 4)=false:=by
 have:=Blk.grown (h.bx.alloc ob) hgr (λe=>by have:=(Q7 h.o4 _ e.symm).1;have:=h.gc;omega)
 exact⟨this.c 4 rfl,this.frozen 4⟩
theorem R5.low4 {C g:Nat}{w:World}{p0 p1 p2 p3 p4:Value}{A:Au}{w0 w':World}{v:Value}(h:R5 C g w p0 p1 p2 p3 p4 A)(ob:Obj)(hgr:(w.alloc ob).grownBy w' p4.ownBlock)(hb:Below g w0 w):Below g w0 (w'.setCell (aD g 4) v):=
 Below.setCell (Below.grown (Below.alloc hb (Nat.le_of_lt h.bx.lt) ob) hgr (by have:=h.bx.lt;rw[Q1];omega) (λb e=>by have:=(Q7 h.o4 b e).1;have:=h.gc;omega)) lR _
end Go.Proofs.YtphiaobccollhaaGreat
