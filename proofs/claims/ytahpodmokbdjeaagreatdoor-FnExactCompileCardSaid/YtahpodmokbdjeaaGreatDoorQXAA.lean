import Derived.Test.YtahpodmokbdjeaaGreatDoorQKN
namespace Go.Proofs.YtahpodmokbdjeaaGreatDoor
open Go.RowKit
set_option linter.unusedVariables false
set_option maxRecDepth 1000000
set_option maxHeartbeats 16000000
theorem Q3z (w:World)(o:Obj)(z:Int):Qd (w.heap.size+1) ((w.alloc o).alloc (.cells #[iV z] 2)) (sL (sA (w.heap.size+1)) 1 1) [z]:=by
 have:=Tu (w.heap.size+1) (w.alloc o) z (Nat.le_of_eq (Q3 w o).symm)
 rw[Q3] at this
 exact this
theorem Qd.cell {B:Nat}{w:World}{a:Option Addr}{n c:Nat}{zs:List Int}(h:Qd B w (sL a n c) zs){i:Nat}(hi:i<zs.length):∃g,a=some (aD g 0)/\w.cell? (aD g i)=some (iV (iat zs i)):=by
 rcases h.opened with⟨e,h2⟩|⟨g,cap,e,_,_,hr⟩
 ·omega
 ·simp only[zC] at e
  exact⟨g,e.1,hr.cell hi⟩
end Go.Proofs.YtahpodmokbdjeaaGreatDoor
namespace Go.Proofs.YtahpodmokbdjeaaGreatDoor
open Go.RowKit Tryz
set_option linter.unusedVariables false
set_option maxRecDepth 1000000
set_option maxHeartbeats 16000000
def Uu:List Int->List Int->Bool
 |x::a,y::b=>if x=y then Uu a b else decide (x<y)
 |_,_=>false
def Vv (a b:List Int):Bool:=if a.length=b.length then Uu a b else decide (a.length<b.length)
theorem I6 (x:Int)(a:List Int)(i:Nat):iat (x::a) (i+1)=iat a i:=by simp[iat,List.getD]
theorem I5 (x:Int)(a:List Int):iat (x::a) 0=x:=by simp[iat,List.getD]
theorem Qgv {a b:List Int}{k:Nat}(h:Q2z a b k)(ha:k<a.length)(hb:k<b.length)(hk:iat a k≠iat b k):Uu a b=decide (iat a k<iat b k):=by
 induction k generalizing a b with
 |zero=>
  match a,b,ha,hb with
  |x::a,y::b,_,_=>
   rw[I5,I5] at hk ⊢
   rw[Uu,if_neg hk]
 |succ k ih=>
  match a,b,ha,hb with
  |x::a,y::b,ha,hb=>
   have h0:=h 0 (Nat.succ_pos _)
   rw[I5,I5] at h0
   rw[I6,I6] at hk ⊢
   rw[Uu,if_pos h0]
   exact ih (λi hi=>by have:=h (i+1) (by omega);rwa [I6,I6] at this) (by simpa using ha) (by simpa using hb) hk
theorem Q4f (a:List Int):Uu a a=false:=by
 induction a with
 |nil=>rfl
 |cons x a ih=>rw[Uu,if_pos rfl];exact ih
theorem Kz (B B':Nat)(v v':Value)(xs ys:List Int)(w:World)(h0:Q8 B w v xs)(h1:Q8 B' w v' ys) :
  Calls prog 66 #[v,v'] w λe w'=>e=.returned (.bool (Vv xs ys))/\Nx w w':=by
 obtain⟨a,cap,rfl,hn,hk⟩:=h0
 obtain⟨a',cap',rfl,hn',hk'⟩:=h1
 unfold maxLen at hn hn'
 generalize hz:xs.length=n at *
 have HZ:Z (xs.length=n):=hz
 clear hz
 generalize hz:ys.length=n' at *
 have HZ':Z (ys.length=n'):=hz
 clear hz
 by_cases hl:n=n'
 case neg=>
  have hd:((n:Int) !=(n':Int))=true:=by simp;omega
  have HF:Z (decide ((n:Int)<(n':Int))=Vv xs ys):=by
   unfold Z Vv
   rw[HZ.o,HZ'.o,if_neg hl]
   simp
  clear hl
  go_enter func66,ntmps66
  go_wp2
  go_ret
  exact⟨Q6 (by first|exact HF.o|(rw[<-HF.o];simp)),Nx.refl _⟩
 subst hl
 have hd:((n:Int) !=(n:Int))=false:=by simp
 have HBD:Z (Vv xs ys=Uu xs ys):=by unfold Z Vv;rw[HZ.o,HZ'.o,if_pos rfl]
 go_enter func66,ntmps66
 go_wp2
 go_loopw [5] (λi wr=>∃k:Nat,k<=n/\i=iV k/\Z (Q2z xs ys k)/\Z (Nx w wr)) (λi _=>n-(intOf i).toNat)
 case atStart=>exact⟨0,nZ,rfl,Q1m _ _,Nx.refl _⟩
 obtain⟨k,hkn,rfl,HA,HN⟩:=hrel
 by_cases hlt:k<n
 ·obtain⟨b,off,rfl,hB,hb,hc⟩:=hk (by omega)
  obtain⟨b',off',rfl,hB',hb',hc'⟩:=hk' (by omega)
  have c0:=Q0 HN.o hb (hc k hlt)
  have c1:=Q0 HN.o hb' (hc' k hlt)
  have hlt':(k:Int)<n:=by omega
  clear hc hk hc' hk'
  by_cases he:iat xs k=iat ys k
  ·have he':(iat xs k !=iat ys k)=false:=by simpa using he
   have HA':Z (Q2z xs ys (k+1)):=Q1n HA.o he
   clear he
   go_wp2
   go_quiet (fail)
   go_wp2
   go_roundw
   case rel=>exact⟨k+1,by omega,by go_num,HA',HN.o.trans ⟨rfl,rfl,rfl,lR,λ_ _=>rfl⟩⟩
   case measure=>simp[intOf];omega
  ·have he':(iat xs k !=iat ys k)=true:=by simpa using he
   have HF:Z (decide (iat xs k<iat ys k)=Vv xs ys):=by
    unfold Z
    rw[HBD.o]
    exact(Qgv HA.o (by rw[HZ.o];exact hlt) (by rw[HZ'.o];exact hlt) he).symm
   clear he
   go_wp2
   go_quiet (fail)
   go_wp2
   go_quiet (fail)
   go_wp2
   go_ret
   exact⟨Q6 HF.o,HN.o.trans ⟨rfl,rfl,rfl,lR,λ_ _=>rfl⟩⟩
 have ek:n=k:=by omega
 subst ek
 have HF:Z (false=Vv xs ys):=by
  unfold Z
  rw[HBD.o,Qdp (a:=xs) (b:=ys) (by rw[HZ.o];exact HA.o) (by rw[HZ.o,HZ'.o]),Q4f]
 clear HA hlt hkn hk hk'
 go_wp2
 go_ret
 exact⟨Q6 HF.o,HN.o⟩
theorem Qa4 {x y z:List Int}(h1:Uu x y=true)(h2:Uu y z=true):Uu x z=true:=by
 induction x generalizing y z with
 |nil=>simp[Uu] at h1
 |cons a x ih=>
  match y,z with
  |[],_=>simp[Uu] at h1
  |_::_,[]=>simp[Uu] at h2
  |b::y,c::z=>
   simp only[Uu] at h1 h2 ⊢
   by_cases e1:a=b
   ·rw[if_pos e1] at h1
    by_cases e2:b=c
    ·rw[if_pos e2] at h2
     rw[if_pos (by omega)]
     exact ih h1 h2
    ·rw[if_neg e2] at h2
     rw[if_neg (by omega)]
     simp at h2 ⊢
     omega
   ·rw[if_neg e1] at h1
    by_cases e2:b=c
    ·rw[if_neg (by omega)]
     simp at h1 ⊢
     omega
    ·rw[if_neg e2] at h2
     simp at h1 h2
     rw[if_neg (by omega)]
     simp
     omega
theorem Za {x y z:List Int}(h1:Vv x y=true)(h2:Vv y z=true):Vv x z=true:=by
 unfold Vv at *
 by_cases e1:x.length=y.length
 ·rw[if_pos e1] at h1
  by_cases e2:y.length=z.length
  ·rw[if_pos e2] at h2
   rw[if_pos (by omega)]
   exact Qa4 h1 h2
  ·rw[if_neg e2] at h2
   rw[if_neg (by omega)]
   simp at h2 ⊢
   omega
 ·rw[if_neg e1] at h1
  by_cases e2:y.length=z.length
  ·rw[if_neg (by omega)]
   simp at h1 ⊢
   omega
  ·rw[if_neg e2] at h2
   simp at h1 h2
   rw[if_neg (by omega)]
   simp
   omega
theorem Vm (x:List Int):Vv x x=false:=by unfold Vv;rw[if_pos rfl,Q4f]
def Y2 (ws:List (List Int)):Prop:=∀i j,i<j->j<ws.length->Vv (wd ws i) (wd ws j)=true
def Tk (f:Nat->Bool):Nat->Nat->Int
 |_,0=>-1
 |k,n+1=>if f k then (k:Int) else Tk f (k+1) n
theorem Kb {f:Nat->Bool}{k n:Nat}(h:0<=Tk f k n):∃a:Nat,Tk f k n=a/\k<=a/\a<k+n/\f a=true:=by
 induction n generalizing k with
 |zero=>simp[Tk] at h
 |succ n ih=>
  unfold Tk at h ⊢
  by_cases e:f k=true
  ·rw[if_pos e];exact⟨k,rfl,lR,by omega,e⟩
  ·rw[if_neg e] at h ⊢
   obtain⟨a,h1,h2,h3,h4⟩:=ih h
   exact⟨a,h1,by omega,by omega,h4⟩
theorem Q6s {f:Nat->Bool}{k n:Nat}(h:∀a,k<=a->a<k+n->f a=false):Tk f k n=-1:=by
 induction n generalizing k with
 |zero=>rfl
 |succ n ih=>
  unfold Tk
  rw[if_neg (by rw[h k lR (by omega)];simp)]
  exact ih λa h1 h2=>h a (by omega) (by omega)
theorem Wj {f:Nat->Bool}{k n a:Nat}(h1:k<=a)(h2:a<k+n)(ha:f a=true)(hu:∀b,k<=b->b<a->f b=false):Tk f k n=a:=by
 induction n generalizing k with
 |zero=>omega
 |succ n ih=>
  unfold Tk
  by_cases e:k=a
  ·subst e;rw[if_pos ha]
  ·rw[if_neg (by rw[hu k lR (by omega)];simp)]
   exact ih (by omega) (by omega) λb hb hb'=>hu b (by omega) hb'
def stW (ws:List (List Int))(x:List Int):Int:=Tk (λi=>decide (wd ws i=x)) 0 ws.length
def Xf (ws:List (List Int))(x:List Int)(lo hi:Nat):Prop:=(∀i,i<lo->Vv (wd ws i) x=true)/\∀i,hi<=i->i<ws.length->Vv (wd ws i) x=false
theorem Qbt {ws:List (List Int)}{x:List Int}{lo hi m:Nat}(ha:Y2 ws)(h:Xf ws x lo hi)(hm:m<ws.length)(hb:Vv (wd ws m) x=true):Xf ws x (m+1) hi:=
 ⟨λi hi=>by
  rcases Nat.lt_succ_iff_lt_or_eq.1 hi with h1|rfl
  ·exact Za (ha i m h1 hm) hb
  ·exact hb,h.2⟩
theorem Q6f {ws:List (List Int)}{x:List Int}{lo hi m:Nat}(ha:Y2 ws)(h:Xf ws x lo hi)(hb:Vv (wd ws m) x=false):Xf ws x lo m:=
 ⟨h.1,λi h1 h2=>by
  rcases Nat.lt_or_eq_of_le h1 with h3|rfl
  ·cases e:Vv (wd ws i) x with
   |false=>rfl
   |true=>rw[Za (ha m i h3 h2) e] at hb;simp at hb
  ·exact hb⟩
theorem Q9v {ws:List (List Int)}{x:List Int}{lo:Nat}(h:Xf ws x lo lo)(hl:lo<ws.length)(e:wd ws lo=x):(lo:Int)=stW ws x:=by
 symm
 refine Wj nZ (by omega) (by simpa using e) λb _ hb=>?_
 rw[decide_eq_false_iff_not]
 intro e'
 have:=h.1 b hb
 rw[e',Vm] at this
 simp at this
theorem Q3w {ws:List (List Int)}{x:List Int}{lo:Nat}(ha:Y2 ws)(h:Xf ws x lo lo)(e:lo<ws.length->wd ws lo≠x):-1=stW ws x:=by
 symm
 refine Q6s λa _ hl=>?_
 rw[decide_eq_false_iff_not]
 intro e'
 rcases Nat.lt_trichotomy a lo with h1|rfl|h1
 ·have:=h.1 a h1
  rw[e',Vm] at this
  simp at this
 ·exact e (by omega) e'
 ·have h2:=ha lo a h1 (by omega)
  rw[e'] at h2
  have:=h.2 lo lR (by omega)
  rw[h2] at this
  simp at this
theorem Qh8 (lo hi:Nat)(h:lo<hi)(hb:hi<=4611686018427387903):∃m:Nat,((lo:Int)+hi).tdiv 2=(m:Int)/\lo<=m/\m<hi:=by
 refine⟨(lo+hi)/2,?_,by omega,by omega⟩
 rw[Int.tdiv_eq_ediv_of_nonneg (by omega)]
 omega
theorem Gy (B B':Nat)(v v':Value)(ws:List (List Int))(xs:List Int)(w:World)(h0:J7 B w v ws)(h1:Q8 B' w v' xs)(ha:Y2 ws)(hl:ws.length<=1048576) :
  Calls prog 100 #[v,v'] w λe w'=>(∃lo:Nat,e=.returned (iV lo)/\lo<=ws.length/\Xf ws xs lo lo)/\Nx w w':=by
 have HH:Z (J7 B w v ws):=h0
 have HX:Z (Q8 B' w v' xs):=h1
 have HA:Z (Y2 ws):=ha
 obtain⟨a,cap,rfl,hn,hk⟩:=h0
 clear h1 ha
 generalize hz:ws.length=n at *
 have HZ:Z (ws.length=n):=hz
 clear hz
 go_enter func100,ntmps100
 go_wp2
 go_loopw [5,6,7] (λs5 s6 s7 wr=>∃lo hi:Nat,lo<=hi/\hi<=n/\s5=iV lo/\s6=iV hi/\Z (Xf ws xs lo hi)/\Z (Nx w wr)) (λs5 s6 _ _=>(intOf s6).toNat-(intOf s5).toNat)
 case atStart=>exact⟨0,n,nZ,lR,rfl,rfl,⟨λi hi=>absurd hi (zM _),λi h1 h2=>by rw[HZ.o] at h2;omega⟩,Nx.refl _⟩
 obtain⟨lo,hi,hlh,hhn,rfl,rfl,HP,HN⟩:=hrel
 by_cases hlt:lo<hi
 ·obtain⟨m,hm,hm1,hm2⟩:=Qh8 lo hi hlt (by omega)
  have hlt':(lo:Int)<hi:=by omega
  have hmn:(m:Int)<n:=by omega
  obtain⟨b,off,rfl,hB,hb,hc⟩:=hk (by omega)
  obtain⟨vi,hv1,hv2,_⟩:=hc m (by omega)
  have c0:=Q0 HN.o hb hv1
  have HVI:Z (Q8 B wr vi (wd ws m)):=hv2.next HN.o
  have hwm:IntKind.i64.wrap ((lo:Int)+hi)=(lo:Int)+hi:=by rw[IntKind.wrap_i64];omega
  clear hc hk hv1 hv2
  go_wp2_with fail
  refine(Kz B B' _ _ _ xs _ HVI.o (HX.o.next HN.o)).mono ?_
  rintro e w1 ⟨rfl,hx⟩
  have HN1:Z (Nx w w1):=HN.o.trans hx
  clear hx HN c0
  cases hbf:Vv (wd ws m) xs
  ·have HP':Z (Xf ws xs lo m):=Q6f HA.o HP.o hbf
   clear hbf
   go_wp2
   go_roundw
   case rel=>exact⟨lo,m,hm1,by omega,rfl,rfl,HP',HN1⟩
   case measure=>simp[intOf];omega
  ·have HP':Z (Xf ws xs (m+1) hi):=Qbt HA.o HP.o (by rw[HZ.o];omega) hbf
   clear hbf
   go_wp2
   go_roundw
   case rel=>exact⟨m+1,hi,by omega,hhn,by go_num,rfl,HP',HN1⟩
   case measure=>simp[intOf];omega
 have ek:lo=hi:=by omega
 subst ek
 clear hlt hk
 go_wp2
 go_ret
 exact⟨⟨lo,rfl,hhn,HP.o⟩,HN.o⟩
theorem Ty (B B':Nat)(v v':Value)(ws:List (List Int))(xs:List Int)(w:World)(h0:J7 B w v ws)(h1:Q8 B' w v' xs)(ha:Y2 ws)(hl:ws.length<=1048576) :
  Calls prog 59 #[v,v'] w λe w'=>e=.returned (iV (stW ws xs))/\Nx w w':=by
 have HH:Z (J7 B w v ws):=h0
 have HX:Z (Q8 B' w v' xs):=h1
 have HA:Z (Y2 ws):=ha
 have HL:Z (ws.length<=1048576):=hl
 obtain⟨a,cap,rfl,hn,hk⟩:=h0
 clear h1 ha
 generalize hz:ws.length=n at *
 have HZ:Z (ws.length=n):=hz
 clear hz
 go_enter func59,ntmps59
 go_wp2_with fail
 refine(Gy B B' _ _ ws xs _ HH.o HX.o HA.o (by rw[HZ.o];exact HL.o)).mono ?_
 rintro e w1 ⟨⟨lo,rfl,hlo,hp⟩,hx⟩
 rw[HZ.o] at hlo
 have HP:Z (Xf ws xs lo lo):=hp
 have HN:Z (Nx w w1):=hx
 clear hp hx
 by_cases hlt:lo<n
 ·have hlt':(lo:Int)<n:=by omega
  obtain⟨b,off,rfl,hB,hb,hc⟩:=hk (by omega)
  obtain⟨vi,hv1,hv2,_⟩:=hc lo hlt
  have c0:=Q0 HN.o hb hv1
  have HVI:Z (Q8 B w1 vi (wd ws lo)):=hv2.next HN.o
  clear hc hk hv1 hv2
  go_wp2_with fail
  refine(K9 B B' _ _ _ xs _ HVI.o (HX.o.next HN.o)).mono ?_
  rintro e w2 ⟨rfl,hx⟩
  have HN2:Z (Nx w w2):=HN.o.trans hx
  clear hx c0
  by_cases he:wd ws lo=xs
  ·have HF:Z ((lo:Int)=stW ws xs):=Q9v HP.o (by rw[HZ.o];exact hlt) he
   have hd:decide (wd ws lo=xs)=true:=by simpa using he
   rw[hd]
   clear he hd
   go_wp2
   go_ret
   exact⟨Qv HF.o,HN2.o⟩
  ·have HF:Z (-1=stW ws xs):=Q3w HA.o HP.o λ_=>he
   have hd:decide (wd ws lo=xs)=false:=by simpa using he
   rw[hd]
   clear he hd
   go_wp2
   go_ret
   exact⟨Qv HF.o,HN2.o⟩
 have hlt':¬(lo:Int)<n:=by omega
 have HF:Z (-1=stW ws xs):=Q3w HA.o HP.o λh=>by rw[HZ.o] at h;omega
 clear hlt hk
 go_wp2
 go_ret
 exact⟨Qv HF.o,HN.o⟩
def Xx (ws:List (List Int))(x:List Int):Nat->Nat->Int
 |_,0=>-1
 |k,f+1=>if 0<=stW ws (x.drop k) then stW ws (x.drop k) else Xx ws x (k+1) f
theorem Qcz (x:List Int)(k i:Nat):iat (x.drop k) i=iat x (k+i):=by simp[iat,List.getD]
theorem Q8.drop {B:Nat}{w:World}{a:Option Addr}{n c k c':Nat}{xs:List Int}(h:Q8 B w (sL a n c) xs)(hk:k<=n)(a':Option Addr)(ha:∀b off,a=some (aD b off)->0<n-k->a'=some (aD b (off+k))):Q8 B w (sL a' (n-k) c') (xs.drop k):=by
 obtain⟨a0,cap,e,hn,hc⟩:=h
 simp only[zC] at e
 obtain⟨rfl,rfl,rfl⟩:=e
 refine⟨a',c',by rw[List.length_drop],by rw[List.length_drop];omega,λh0=>?_⟩
 rw[List.length_drop] at h0
 obtain⟨b,off,rfl,hB,hb,hcc⟩:=hc (by omega)
 refine⟨b,off+k,ha b off rfl h0,hB,hb,λi hi=>?_⟩
 rw[List.length_drop] at hi
 show w.cell? (aD b (off+k+i))=_
 rw[Qcz,Nat.add_assoc]
 exact hcc (k+i) (by omega)
theorem W8 (B B':Nat)(v v':Value)(ws:List (List Int))(xs:List Int)(k0:Nat)(w:World)(h0:J7 B w v ws)(h1:Q8 B' w v' xs)(ha:Y2 ws)(hl:ws.length<=1048576)(hx:xs.length<=1048576)(hk0:k0<=xs.length+1)(hcp:Vw v') :
  Calls prog 60 #[v,v',iV k0] w λe w'=>e=.returned (iV (Xx ws xs k0 (xs.length+1-k0)))/\Nx w w':=by
 have HH:Z (J7 B w v ws):=h0
 have HX:Z (Q8 B' w v' xs):=h1
 have HA:Z (Y2 ws):=ha
 have HL:Z (ws.length<=1048576):=hl
 obtain⟨a,cap,rfl,hn,hk⟩:=h1
 obtain⟨a',n',c',e,hcp⟩:=hcp
 simp only[zC] at e
 obtain⟨rfl,rfl,rfl⟩:=e
 clear ha h0 hk
 generalize hz:xs.length=n at *
 have HZ:Z (xs.length=n):=hz
 have HC:Z (n<=cap):=hcp
 clear hz hcp
 go_enter func60,ntmps60
 go_wp2
 go_loopw [7,8] (λi z wr=>∃k:Nat,k<=n+1/\i=iV k/\Z (Xx ws xs k0 (n+1-k0)=Xx ws xs k (n+1-k))/\Z (Nx w wr)) (λi _ _=>n+1-(intOf i).toNat)
 case atStart=>exact⟨k0,hk0,rfl,rfl,Nx.refl _⟩
 obtain⟨k,hkn,rfl,HE,HN⟩:=hrel
 by_cases hlt:k<=n
 ·have hlt':(k:Int)<=n:=by omega
  have HE':Z (Xx ws xs k0 (n+1-k0)=if 0<=stW ws (xs.drop k) then stW ws (xs.drop k) else Xx ws xs (k+1) (n+1-(k+1))):=by
   unfold Z
   rw[HE.o,show n+1-k=(n+1-(k+1))+1 by omega,Xx]
  by_cases hck:cap=k
  ·have hnk:n-k=0:=by have:=HC.o;omega
   have HD:Z (Q8 B' wr (sL a (n-k) 0) (xs.drop k)):=(HX.o.next HN.o).drop (by omega) a (λb off _ h=>by omega)
   subst hck
   clear hnk
   go_wp2_with fail
   refine(Ty B B' _ _ ws (xs.drop cap) _ (HH.o.next HN.o) HD.o HA.o HL.o).mono ?_
   rintro e w1 ⟨rfl,hx1⟩
   have HN1:Z (Nx w w1):=HN.o.trans hx1
   clear hx1 HN HD
   generalize stW ws (xs.drop cap)=z at *
   by_cases hz:0<=z
   ·have hd:decide (0<=z)=true:=by simpa using hz
    have HF:Z (z=Xx ws xs k0 (n+1-k0)):=by unfold Z;rw[HE'.o,if_pos hz]
    clear hz
    go_wp2
    go_ret
    exact⟨Qv HF.o,HN1.o⟩
   ·have hd:decide (0<=z)=false:=by simpa using hz
    have HF:Z (Xx ws xs k0 (n+1-k0)=Xx ws xs (cap+1) (n+1-(cap+1))):=by unfold Z;rw[HE'.o,if_neg hz]
    clear hz
    go_wp2
    go_roundw
    case rel=>exact⟨cap+1,by omega,by go_num,HF,HN1⟩
    case measure=>simp[intOf];omega
  ·have HD:Z (Q8 B' wr (sL (Option.map (λx=>x.add k) a) (n-k) (cap-k)) (xs.drop k)):=(HX.o.next HN.o).drop (by omega) _ (λb off e h=>by rw[e];exact congrArg some (Addr.add_lit _ _ _))
   go_wp2_with fail
   refine(Ty B B' _ _ ws (xs.drop k) _ (HH.o.next HN.o) HD.o HA.o HL.o).mono ?_
   rintro e w1 ⟨rfl,hx1⟩
   have HN1:Z (Nx w w1):=HN.o.trans hx1
   clear hx1 HN HD
   generalize stW ws (xs.drop k)=z at *
   by_cases hz:0<=z
   ·have hd:decide (0<=z)=true:=by simpa using hz
    have HF:Z (z=Xx ws xs k0 (n+1-k0)):=by unfold Z;rw[HE'.o,if_pos hz]
    clear hz
    go_wp2
    go_ret
    exact⟨Qv HF.o,HN1.o⟩
   ·have hd:decide (0<=z)=false:=by simpa using hz
    have HF:Z (Xx ws xs k0 (n+1-k0)=Xx ws xs (k+1) (n+1-(k+1))):=by unfold Z;rw[HE'.o,if_neg hz]
    clear hz
    go_wp2
    go_roundw
    case rel=>exact⟨k+1,by omega,by go_num,HF,HN1⟩
    case measure=>simp[intOf];omega
 have ek:k=n+1:=by omega
 have hlt':¬(k:Int)<=n:=by omega
 have HF:Z (-1=Xx ws xs k0 (n+1-k0)):=by unfold Z;rw[HE.o,ek,Nat.sub_self,Xx]
 clear hlt ek
 go_wp2
 go_ret
 exact⟨Qv HF.o,HN.o⟩
end Go.Proofs.YtahpodmokbdjeaaGreatDoor
namespace Go.Proofs.YtahpodmokbdjeaaGreatDoor
open Go.RowKit
set_option linter.unusedVariables false
set_option maxRecDepth 1000000
set_option maxHeartbeats 16000000
structure Au where
 pa:List Int
 la:List Int
 fa:List Int
 mu:List Int
 bd:List Bool
def bat (bs:List Bool)(i:Nat):Bool:=bs.getD i false
theorem Qhm {zs:List Bool}{i:Nat}(h:i<zs.length):bat zs i=zs[i]:=by simp[bat,List.getD,h]
def P9 (B:Nat)(w:World)(v:Value)(bs:List Bool):Prop:=
 Ji B w v bs.length λb off i=>w.cell? (aD b (off+i))=some (.bool (bat bs i))
theorem P9.keep {B:Nat}{w w':World}{v:Value}{bs:List Bool}(h:P9 B w v bs)(k:Xh B w w'):P9 B w' v bs:=
 Ji.mono h lR k.1 λb off hb hs i hi hc=>(k.2 b hb hs _).trans hc
structure HA (B:Nat)(w:World)(v0 v1 v2 v3 v4:Value)(A:Au):Prop where
 h0:Q8 B w v0 A.pa
 h1:Q8 B w v1 A.la
 h2:Q8 B w v2 A.fa
 h3:Q8 B w v3 A.mu
 h4:P9 B w v4 A.bd
theorem HA.keep {B:Nat}{w w':World}{v0 v1 v2 v3 v4:Value}{A:Au}(h:HA B w v0 v1 v2 v3 v4 A)(k:Xh B w w'):HA B w' v0 v1 v2 v3 v4 A:=⟨h.h0.keep k,h.h1.keep k,h.h2.keep k,h.h3.keep k,h.h4.keep k⟩
theorem HA.next {B:Nat}{w w':World}{v0 v1 v2 v3 v4:Value}{A:Au}(h:HA B w v0 v1 v2 v3 v4 A)(k:Nx w w'):HA B w' v0 v1 v2 v3 v4 A:=h.keep (k.keeps B)
def nw (A:Au)(ws:List (List Int))(s:Nat):List Int:=wd ws (iat A.pa s).toNat++[iat A.la s]
def okR (A:Au)(s:Nat):Bool:=decide (0<=iat A.pa s)&&(decide (iat A.pa s<(s:Int))&&(decide (0<=iat A.la s)&&decide (iat A.la s<4000)))
def okW (A:Au)(ws:List (List Int))(s:Nat):Bool:=okR A s&&(decide ((nw A ws s).length<=402)&&Vv (wd ws (s-1)) (nw A ws s))
def okS (A:Au)(ws:List (List Int))(s:Nat):Bool:=if s=0 then (iat A.pa 0==-1)&&(iat A.la 0==-1) else okW A ws s
def Qp (A:Au):Nat->List (List Int)×Bool
 |0=>([],true)
 |s+1=>if ((Qp A s).2&&okS A (Qp A s).1 s)=true then ((Qp A s).1++[if s=0 then [] else nw A (Qp A s).1 s],true) else ((Qp A s).1,false)
theorem Q0r {A:Au}{s:Nat}{ws:List (List Int)}(h:Qp A s=(ws,true))(ho:okS A ws s=true):Qp A (s+1)=(ws++[if s=0 then [] else nw A ws s],true):=by
 rw[Qp,h]
 simp[ho]
theorem Q3l {A:Au}{s:Nat}{ws:List (List Int)}(h:Qp A s=(ws,true))(ho:okS A ws s=false)(d:Nat):Qp A (s+1+d)=(ws,false):=by
 induction d with
 |zero=>rw[Nat.add_zero,Qp,h];simp[ho]
 |succ d ih=>rw[<-Nat.add_assoc,Qp,ih];simp
end Go.Proofs.YtahpodmokbdjeaaGreatDoor
namespace Go.Proofs.YtahpodmokbdjeaaGreatDoor
open Go.RowKit Tryz
set_option linter.unusedVariables false
set_option maxRecDepth 1000000
set_option maxHeartbeats 16000000
theorem U9 {w w':World}(k:Nx w w'){b o:Nat}{v:Value}(h:w.cell? (aD b o)=some v):w'.cell? (aD b o)=some v:=Q0 k (Zj h) h
def Qk (rs:List Ru)(i:Nat):Ru:=rs.getD i ⟨0,false,[]⟩
def Q94 (B:Nat)(w:World)(b o:Nat)(x:Ru):Prop:=
 ∃a c,w.cell? (aD b o)=some (iV x.rel)/\w.cell? (aD b (o+1))=some (.bool x.only)/\w.cell? (aD b (o+2))=some (sL a x.seq.length c)/\Q8 B w (sL a x.seq.length c) x.seq/\x.seq.length<=c
def X7 (B:Nat)(w:World)(v:Value)(rs:List Ru):Prop:=Ji B w v rs.length λb off i=>Q94 B w b (off+i*3) (Qk rs i)
theorem Q94.keep {B:Nat}{w w':World}{b o:Nat}{x:Ru}(h:Q94 B w b o x)(hb:B<=b)(hs:b<w.heap.size)(k:Xh B w w'):Q94 B w' b o x:=by
 obtain⟨a,c,h1,h2,h3,h4,h5⟩:=h
 exact⟨a,c,(k.2 b hb hs _).trans h1,(k.2 b hb hs _).trans h2,(k.2 b hb hs _).trans h3,h4.keep k,h5⟩
theorem X7.keep {B:Nat}{w w':World}{v:Value}{rs:List Ru}(h:X7 B w v rs)(k:Xh B w w'):X7 B w' v rs:=
 Ji.mono h lR k.1 λb off hb hs i hi hc=>hc.keep hb hs k
theorem X7.next {B:Nat}{w w':World}{v:Value}{rs:List Ru}(h:X7 B w v rs)(k:Nx w w'):X7 B w' v rs:=h.keep (k.keeps B)
def W4 (e:Int):Bool:=decide (0<=e)&&decide (e<4000)
def Kr (x:Ru):Bool:=decide (2<=x.seq.length)&&(decide (x.seq.length<=402)&&Je x.seq.length (λj=>W4 (iat x.seq j)))
def rgB (rs:List Ru):Bool:=decide (rs.length<=1000)&&Je rs.length (λi=>Kr (Qk rs i))
theorem Qbf {rs:List Ru}(h:¬rs.length<=1000):false=rgB rs:=by simp[rgB,h]
theorem Ee {rs:List Ru}{k n:Nat}(hn:rs.length=n)(hk:k<n)(h:Kr (Qk rs k)=false):false=rgB rs:=by
 subst hn
 unfold rgB
 rw[J2 (p:=λi=>Kr (Qk rs i)) hk h];simp
theorem Qbe {rs:List Ru}{k n:Nat}(hn:rs.length=n)(h1:n<=1000)(hk:n<=k)(h:Vn (λi=>Kr (Qk rs i)) k):true=rgB rs:=by
 subst hn
 unfold rgB
 rw[Qz hk h];simp[h1]
theorem Fb (B:Nat)(v:Value)(rs:List Ru)(w:World)(h0:X7 B w v rs) :
  Calls prog 57 #[v] w λe w'=>e=.returned (.bool (rgB rs))/\w'=w:=by
 obtain⟨a,cap,rfl,hn,hk⟩:=h0
 unfold maxLen at hn
 generalize hz:rs.length=n at *
 have HZ:Z (rs.length=n):=hz
 clear hz
 by_cases e1:n<=1000
 case neg=>
  have d1:decide (1000<(n:Int))=true:=by simp;omega
  have HF:Z (false=rgB rs):=Qbf (by rw[HZ.o];exact e1)
  go_enter func57,ntmps57
  go_wp2
  go_ret
  exact⟨Q6 HF.o,rfl⟩
 have d1:decide (1000<(n:Int))=false:=by simp;omega
 go_enter func57,ntmps57
 go_wp2
 clear d1
 go_loop [3,4] (λi _=>∃k:Nat,k<=n/\i=iV k/\Z (Vn (λi=>Kr (Qk rs i)) k)) (λi _=>n-(intOf i).toNat)
 case atStart=>exact⟨0,nZ,rfl,J4 _⟩
 obtain⟨k,hkn,rfl,HA⟩:=hrel
 by_cases hlt:k<n
 case neg=>
  have HF:Z (true=rgB rs):=Qbe HZ.o e1 (by omega) HA.o
  go_wp2
  go_ret
  exact⟨Q6 HF.o,rfl⟩
 obtain⟨b,off,rfl,_,hb,hc⟩:=hk (by omega)
 obtain⟨sa,sc,c0,c1,c2,hS,hcap⟩:=hc k hlt
 have hlt':(k:Int)<n:=by omega
 clear c0 c1 hc hk
 generalize hx:Qk rs k=x at *
 have HX:Z (Qk rs k=x):=hx
 clear hx
 obtain⟨sa',sc',e',hsn,hsk⟩:=hS
 simp only[zC] at e'
 obtain⟨rfl,_,rfl⟩:=e'
 unfold maxLen at hsn
 have HRG:Z (Kr x=(decide (2<=x.seq.length)&&(decide (x.seq.length<=402)&&Je x.seq.length (λj=>W4 (iat x.seq j))))):=rfl
 generalize hm:x.seq.length=m at *
 clear hm
 by_cases g1:2<=m
 case neg=>
  have f1:decide ((m:Int)<2)=true:=by simp;omega
  have HF:Z (false=rgB rs):=Ee HZ.o hlt (by rw[HX.o,HRG.o];simp[g1])
  go_wp2
  go_ret
  exact⟨Q6 HF.o,rfl⟩
 have f1:decide ((m:Int)<2)=false:=by simp;omega
 by_cases g2:m<=402
 case neg=>
  have f2:decide (402<(m:Int))=true:=by simp;omega
  have HF:Z (false=rgB rs):=Ee HZ.o hlt (by rw[HX.o,HRG.o];simp[g2])
  go_wp2
  go_ret
  exact⟨Q6 HF.o,rfl⟩
 have f2:decide (402<(m:Int))=false:=by simp;omega
 go_wp2
 clear f1 f2
 go_loop [4] (λi=>∃q:Nat,q<=m/\i=iV q/\Z (Vn (λj=>W4 (iat x.seq j)) q)) (λi=>m-(intOf i).toNat)
 case atStart=>exact⟨0,nZ,rfl,J4 _⟩
 obtain⟨q,hqm,rfl,HQ⟩:=hrel
 by_cases hql:q<m
 case neg=>
  have HF:Z (Kr x=true):=by unfold Z;rw[HRG.o,Qz (by omega) HQ.o];simp[g1,g2]
  go_wp2
  go_round
  case rel=>exact⟨k+1,by omega,by go_num,Qr HA.o (by show Kr (Qk rs k)=true;rw[HX.o];exact HF.o)⟩
  case measure=>simp[intOf];omega
 obtain⟨b',off',rfl,_,hb',hc'⟩:=hsk (by omega)
 have x0:=hc' q hql
 have hql':(q:Int)<m:=by omega
 clear hc' hsk
 by_cases g3:0<=iat x.seq q
 case neg=>
  have f3:decide (iat x.seq q<0)=true:=by simp;omega
  have HF:Z (false=rgB rs):=Ee HZ.o hlt (by rw[HX.o,HRG.o,J2 hql (by simp[W4,g3])];simp)
  clear g3
  go_wp2
  go_ret
  exact⟨Q6 HF.o,rfl⟩
 have f3:decide (iat x.seq q<0)=false:=by simp;omega
 by_cases g4:iat x.seq q<4000
 case neg=>
  have f4:decide (4000<=iat x.seq q)=true:=by simp;omega
  have HF:Z (false=rgB rs):=Ee HZ.o hlt (by rw[HX.o,HRG.o,J2 hql (by simp[W4,g4])];simp)
  clear g3 g4
  go_wp2
  go_ret
  exact⟨Q6 HF.o,rfl⟩
 have f4:decide (4000<=iat x.seq q)=false:=by simp;omega
 have HE:Z (W4 (iat x.seq q)=true):=by unfold Z;simp[W4,g3,g4]
 clear g3 g4
 go_wp2
 go_round
 case rel=>exact⟨q+1,by omega,by go_num,Qr HQ.o HE.o⟩
 case measure=>simp[intOf];omega
def Pp (q xs:List Int):Bool:=decide (q.length<=xs.length)&&Je q.length (λi=>iat xs (xs.length-q.length+i)==iat q i)
theorem I4 (B B':Nat)(v v':Value)(xs q:List Int)(w:World)(h0:Q8 B w v xs)(h1:Q8 B' w v' q) :
  Calls prog 101 #[v,iV xs.length,v'] w λe w'=>e=.returned (.bool (Pp q xs))/\Nx w w':=by
 have HSD:Z (Pp q xs=(decide (q.length<=xs.length)&&Je q.length (λi=>iat xs (xs.length-q.length+i)==iat q i))):=rfl
 obtain⟨a,cap,rfl,hn,hk⟩:=h0
 obtain⟨a',cap',rfl,hn',hk'⟩:=h1
 unfold maxLen at hn hn'
 generalize xs.length=n at *
 generalize q.length=m at *
 by_cases e1:m<=n
 case neg=>
  have d1:decide ((n:Int)<m)=true:=by simp;omega
  have HF:Z (false=Pp q xs):=by unfold Z;rw[HSD.o];simp[e1]
  go_enter func101,ntmps101
  go_wp2
  go_ret
  exact⟨Q6 HF.o,Nx.refl _⟩
 have d1:decide ((n:Int)<m)=false:=by simp;omega
 obtain⟨d,rfl⟩:∃d,n=m+d:=⟨n-m,by omega⟩
 have HS2:Z (Pp q xs=Je m (λi=>iat xs (d+i)==iat q i)):=by
  unfold Z
  rw[HSD.o,show m+d-m=d by omega]
  simp
 clear HSD d1
 have d1:decide ((m:Int)+d<m)=false:=by simp;omega
 go_enter func101,ntmps101
 go_wp2
 clear d1
 go_loopw [7] (λi wr=>∃k:Nat,k<=m/\i=iV k/\Z (Vn (λi=>iat xs (d+i)==iat q i) k)/\Z (Nx w wr)) (λi _=>m-(intOf i).toNat)
 case atStart=>exact⟨0,nZ,rfl,J4 _,Nx.refl _⟩
 obtain⟨k,hkm,rfl,HA,HN⟩:=hrel
 by_cases hlt:k<m
 case neg=>
  have HF:Z (true=Pp q xs):=by unfold Z;rw[HS2.o,Qz (by omega) HA.o]
  go_wp2
  go_ret
  exact⟨Q6 HF.o,HN.o⟩
 obtain⟨b,off,rfl,_,hb,hc⟩:=hk (by omega)
 obtain⟨b',off',rfl,_,hb',hc'⟩:=hk' (by omega)
 have x0:=Q0 HN.o hb (hc (d+k) (by omega))
 have y0:=Q0 HN.o hb' (hc' k hlt)
 have hlt':(k:Int)<m:=by omega
 have w1:IntKind.i64.wrap ((m:Int)+d-m)=(d:Int):=by rw[IntKind.wrap_i64];omega
 have w2:IntKind.i64.wrap ((d:Int)+k)=(d:Int)+k:=by rw[IntKind.wrap_i64];omega
 have hdk:(d:Int)+k<(m:Int)+d:=by omega
 clear hc hc' hk hk'
 cases g:(iat xs (d+k)==iat q k)
 case false=>
  have g':(iat xs (d+k) !=iat q k)=true:=by simpa using g
  have HF:Z (false=Pp q xs):=by unfold Z;rw[HS2.o,J2 hlt g]
  clear g
  go_wp2
  go_quiet (fail)
  go_wp2
  go_ret
  exact⟨Q6 HF.o,HN.o.trans ⟨rfl,rfl,rfl,lR,λ_ _=>rfl⟩⟩
 case true=>
  have g':(iat xs (d+k) !=iat q k)=false:=by simpa using g
  have HG:Z ((iat xs (d+k)==iat q k)=true):=g
  clear g
  go_wp2
  go_quiet (fail)
  go_wp2
  go_roundw
  case rel=>exact⟨k+1,by omega,by go_num,Qr HA.o HG.o,HN.o.trans ⟨rfl,rfl,rfl,lR,λ_ _=>rfl⟩⟩
  case measure=>simp[intOf];omega
def Wm (x:Ru)(xs:List Int):Bool:=!x.only&&Pp x.seq xs
def Js (rs:List Ru)(xs:List Int):Bool:=!Je rs.length (λi=>!Wm (Qk rs i) xs)
theorem Q90 {rs:List Ru}{xs:List Int}{k n:Nat}(hn:rs.length=n)(hk:k<n)(h:Wm (Qk rs k) xs=true):true=Js rs xs:=by
 subst hn
 unfold Js
 rw[J2 (p:=λi=>!Wm (Qk rs i) xs) hk (by simp[h])];rfl
theorem Qhn {rs:List Ru}{xs:List Int}{k n:Nat}(hn:rs.length=n)(hk:n<=k)(h:Vn (λi=>!Wm (Qk rs i) xs) k):false=Js rs xs:=by
 subst hn
 unfold Js
 rw[Qz hk h];rfl
theorem Q16 (B B':Nat)(v v':Value)(rs:List Ru)(xs:List Int)(w:World)(h0:X7 B w v rs)(h1:Q8 B' w v' xs) :
  Calls prog 62 #[v,v'] w λe w'=>e=.returned (.bool (Js rs xs))/\Nx w w':=by
 have HX:Z (Q8 B' w v' xs):=h1
 obtain⟨a,cap,rfl,hn,hk⟩:=h0
 obtain⟨a',cap',rfl,hn',_⟩:=h1
 unfold maxLen at hn hn'
 generalize hz:rs.length=n at *
 have HZ:Z (rs.length=n):=hz
 clear hz
 go_enter func62,ntmps62
 go_wp2
 go_loopw [5] (λi wr=>∃k:Nat,k<=n/\i=iV k/\Z (Vn (λi=>!Wm (Qk rs i) xs) k)/\Z (Nx w wr)) (λi _=>n-(intOf i).toNat)
 case atStart=>exact⟨0,nZ,rfl,J4 _,Nx.refl _⟩
 obtain⟨k,hkm,rfl,HA,HN⟩:=hrel
 by_cases hlt:k<n
 case neg=>
  have HF:Z (false=Js rs xs):=Qhn HZ.o (by omega) HA.o
  go_wp2
  go_ret
  exact⟨Q6 HF.o,HN.o⟩
 obtain⟨b,off,rfl,_,hb,hc⟩:=hk (by omega)
 obtain⟨sa,sc,c0,c1,c2,hS,hcap⟩:=hc k hlt
 have c1:=Q0 HN.o hb c1
 have c2:=Q0 HN.o hb c2
 have hlt':(k:Int)<n:=by omega
 have HS:Z (Q8 B w (.slice sa (Qk rs k).seq.length sc) (Qk rs k).seq):=hS
 have HBD:Z (Wm (Qk rs k) xs=(!(Qk rs k).only&&Pp (Qk rs k).seq xs)):=rfl
 clear hc hk c0 hS
 cases g1:(Qk rs k).only
 case true=>
  have HF:Z ((!Wm (Qk rs k) xs)=true):=by unfold Z;rw[HBD.o,g1];rfl
  rw[g1] at c1
  clear g1
  go_wp2
  go_roundw
  case rel=>exact⟨k+1,by omega,by go_num,Qr HA.o HF.o,HN⟩
  case measure=>simp[intOf];omega
 rw[g1] at c1 HBD
 clear g1
 go_wp2_with fail
 refine(I4 B' B _ _ xs (Qk rs k).seq _ (by exact HX.o.next HN.o) (by exact HS.o.next HN.o)).mono ?_
 rintro e w1 ⟨rfl,hx⟩
 have HN1:Z (Nx w w1):=HN.o.trans hx
 clear hx c1 c2
 cases g2:Pp (Qk rs k).seq xs
 case true=>
  have HF:Z (true=Js rs xs):=Q90 HZ.o hlt (by rw[HBD.o,g2];rfl)
  clear g2
  go_wp2
  go_ret
  exact⟨Q6 HF.o,HN1.o⟩
 case false=>
  have HF:Z ((!Wm (Qk rs k) xs)=true):=by unfold Z;rw[HBD.o,g2];rfl
  clear g2
  go_wp2
  go_roundw
  case rel=>exact⟨k+1,by omega,by go_num,Qr HA.o HF.o,HN1⟩
  case measure=>simp[intOf];omega
theorem Qcx {zs:List Int}{k i:Nat}(h:i<k):iat (zs.take k) i=iat zs i:=by
 simp[iat,List.getD,List.getElem?_take_of_lt h]
theorem Q8.take {B:Nat}{w:World}{a:Option Addr}{n c:Nat}{zs:List Int}(h:Q8 B w (sL a n c) zs){k:Nat}(hk:k<=n)(c':Nat):Q8 B w (sL a k c') (zs.take k):=by
 obtain⟨a0,c0,e,hn,hk'⟩:=h
 simp only[zC] at e
 obtain⟨rfl,rfl,rfl⟩:=e
 have hl:(zs.take k).length=k:=by rw[yC];omega
 refine⟨_,c',by rw[hl],by rw[hl];omega,λh0=>?_⟩
 rw[hl] at h0
 obtain⟨b,off,rfl,hB,hb,hc⟩:=hk' (by omega)
 refine⟨b,off,rfl,hB,hb,λi hi=>?_⟩
 rw[hl] at hi
 show w.cell? _=_
 rw[Qcx hi]
 exact hc i (by omega)
def Q18 (m l:Int):Int:=if m=-1\/m=l then l else -2
def G6 (x:Ru)(xs:List Int):Bool:=x.only&&Pp (x.seq.take (x.seq.length-1)) xs
def Vk (rs:List Ru)(xs:List Int):Nat->Int
 |0=>-1
 |k+1=>if G6 (Qk rs k) xs=true then Q18 (Vk rs xs k) (iat (Qk rs k).seq ((Qk rs k).seq.length-1)) else Vk rs xs k
def Qw (rs:List Ru)(xs:List Int):Int:=Vk rs xs rs.length
theorem Es (B B':Nat)(v v':Value)(rs:List Ru)(xs:List Int)(w:World)(h0:X7 B w v rs)(h1:Q8 B' w v' xs)(hg:∀i,i<rs.length->2<=(Qk rs i).seq.length) :
  Calls prog 61 #[v,v'] w λe w'=>e=.returned (iV (Qw rs xs))/\Nx w w':=by
 have HX:Z (Q8 B' w v' xs):=h1
 have HGD:Z (∀i,i<rs.length->2<=(Qk rs i).seq.length):=hg
 clear hg
 obtain⟨a,cap,rfl,hn,hk⟩:=h0
 obtain⟨a',cap',rfl,hn',_⟩:=h1
 unfold maxLen at hn hn'
 generalize hz:rs.length=n at *
 have HZ:Z (rs.length=n):=hz
 clear hz
 go_enter func61,ntmps61
 go_wp2
 go_loopw [5,6,7,8] (λm i _ _ wr=>∃k:Nat,k<=n/\i=iV k/\m=iV (Vk rs xs k)/\Z (Nx w wr)) (λ_ i _ _ _=>n-(intOf i).toNat)
 case atStart=>exact⟨0,nZ,rfl,rfl,Nx.refl _⟩
 obtain⟨k,hkm,rfl,rfl,HN⟩:=hrel
 by_cases hlt:k<n
 case neg=>
  have ek:n=k:=by omega
  subst ek
  have HF:Z (Vk rs xs n=Qw rs xs):=by unfold Z Qw;rw[HZ.o]
  clear hlt
  go_wp2
  go_ret
  exact⟨Qv HF.o,HN.o⟩
 obtain⟨b,off,rfl,_,hb,hc⟩:=hk (by omega)
 obtain⟨sa,sc,c0,c1,c2,hS,hcap⟩:=hc k hlt
 have c1:=Q0 HN.o hb c1
 have c2:=Q0 HN.o hb c2
 have hlt':(k:Int)<n:=by omega
 have h2:=HGD.o k hlt
 have HS:Z (Q8 B w (.slice sa (Qk rs k).seq.length sc) (Qk rs k).seq):=hS
 have HMT:Z (Vk rs xs (k+1)=if G6 (Qk rs k) xs=true then Q18 (Vk rs xs k) (iat (Qk rs k).seq ((Qk rs k).seq.length-1)) else Vk rs xs k):=rfl
 have HMA:Z (G6 (Qk rs k) xs=((Qk rs k).only&&Pp ((Qk rs k).seq.take ((Qk rs k).seq.length-1)) xs)):=rfl
 obtain⟨sa',sc',e',hsn,hsk⟩:=hS
 simp only[zC] at e'
 obtain⟨rfl,_,rfl⟩:=e'
 unfold maxLen at hsn
 generalize Qk rs k=x at *
 generalize hq:x.seq.length=q at *
 clear hq
 obtain⟨p,rfl⟩:∃p,q=p+1:=⟨q-1,by omega⟩
 rw[Nat.add_sub_cancel] at HMT HMA
 obtain⟨b',off',rfl,_,hb',hc'⟩:=hsk (by omega)
 have z0:=Q0 HN.o hb' (hc' p (by omega))
 have w1:IntKind.i64.wrap ((p:Int)+1-1)=(p:Int):=by rw[IntKind.wrap_i64];omega
 have w2:((p:Int)+1-1)=(p:Int):=by omega
 have hp1:(p:Int)<(p:Int)+1:=by omega
 have hp2:(p:Int)<=sc:=by omega
 have wp:=Yk p (by omega)
 clear hc hk c0 hc' hsk
 generalize iat x.seq p=l at *
 generalize Vk rs xs k=m at *
 cases g1:x.only
 case false=>
  have HF:Z (Vk rs xs (k+1)=m):=by unfold Z;rw[HMT.o,HMA.o,g1];rfl
  rw[g1] at c1
  clear g1
  go_wp2
  go_roundw
  case rel=>exact⟨k+1,by omega,by go_num,by rw[HF.o],HN⟩
  case measure=>simp[intOf];omega
 rw[g1] at c1 HMA
 clear g1
 go_wp2_with fail
 refine(I4 B' B _ _ xs (x.seq.take p) _ (by exact HX.o.next HN.o) (by exact(HS.o.take (Nat.le_succ _) _).next HN.o)).mono ?_
 rintro e w1 ⟨rfl,hx⟩
 have HN1:Z (Nx w w1):=HN.o.trans hx
 have c2:=U9 hx c2
 have z0:=U9 hx z0
 clear hx c1
 cases g2:Pp (x.seq.take p) xs
 case false=>
  have HF:Z (Vk rs xs (k+1)=m):=by unfold Z;rw[HMT.o,HMA.o,g2];rfl
  clear g2
  go_wp2
  go_roundw
  case rel=>exact⟨k+1,by omega,by go_num,by rw[HF.o],HN1⟩
  case measure=>simp[intOf];omega
 have HF:Z (Vk rs xs (k+1)=Q18 m l):=by unfold Z;rw[HMT.o,HMA.o,g2];rfl
 have HJ:Z (Q18 m l=if m=-1\/m=l then l else -2):=rfl
 clear g2 HMT HMA
 by_cases g3:m=-1
 ·have f3:(m==-1)=true:=by simpa using g3
  have HF2:Z (Vk rs xs (k+1)=l):=by unfold Z;rw[HF.o,HJ.o,if_pos (oL g3)]
  clear g3
  go_wp2
  go_roundw
  case rel=>exact⟨k+1,by omega,by go_num,by rw[HF2.o],HN1⟩
  case measure=>simp[intOf];omega
 have f3:(m==-1)=false:=by simpa using g3
 by_cases g4:m=l
 ·have f4:(m==l)=true:=by simpa using g4
  have HF2:Z (Vk rs xs (k+1)=l):=by unfold Z;rw[HF.o,HJ.o,if_pos (oR g4)]
  clear g3 g4
  go_wp2
  go_roundw
  case rel=>exact⟨k+1,by omega,by go_num,by rw[HF2.o],HN1⟩
  case measure=>simp[intOf];omega
 ·have f4:(m==l)=false:=by simpa using g4
  have HF2:Z (Vk rs xs (k+1)=-2):=by unfold Z;rw[HF.o,HJ.o,if_neg (by rintro(h|h);exact g3 h;exact g4 h)]
  clear g3 g4
  go_wp2
  go_roundw
  case rel=>exact⟨k+1,by omega,by go_num,by rw[HF2.o],HN1⟩
  case measure=>simp[intOf];omega
end Go.Proofs.YtahpodmokbdjeaaGreatDoor
