import Derived.Test.YtdpfdkihbgmapaaGreatLB
namespace Go.Proofs.YtdpfdkihbgmapaaGreat
open Go.RowKit
set_option linter.unusedVariables false
set_option maxRecDepth 1000000
set_option maxHeartbeats 16000000
theorem lex_trans {x y z:List Int}(h1:lexB x y=true)(h2:lexB y z=true):lexB x z=true:=by
 induction x generalizing y z with
 |nil=>simp[lexB] at h1
 |cons a x ih=>
  match y,z with
  |[],_=>simp[lexB] at h1
  |_::_,[]=>simp[lexB] at h2
  |b::y,c::z=>
   simp only[lexB] at h1 h2 ⊢
   by_cases e1:a=b
   ·rw[if_pos e1] at h1
    by_cases e2:b=c
    ·rw[if_pos e2] at h2
     rw[if_pos (by omega)]
     exact ih h1 h2
    ·rw[if_neg e2] at h2
     rw[if_neg (by omega)]
     simp at h2 ⊢
     omega
   ·rw[if_neg e1] at h1
    by_cases e2:b=c
    ·rw[if_neg (by omega)]
     simp at h1 ⊢
     omega
    ·rw[if_neg e2] at h2
     simp at h1 h2
     rw[if_neg (by omega)]
     simp
     omega
theorem bef_trans {x y z:List Int}(h1:befB x y=true)(h2:befB y z=true):befB x z=true:=by
 unfold befB at *
 by_cases e1:x.length=y.length
 ·rw[if_pos e1] at h1
  by_cases e2:y.length=z.length
  ·rw[if_pos e2] at h2
   rw[if_pos (by omega)]
   exact lex_trans h1 h2
  ·rw[if_neg e2] at h2
   rw[if_neg (by omega)]
   simp at h2 ⊢
   omega
 ·rw[if_neg e1] at h1
  by_cases e2:y.length=z.length
  ·rw[if_neg (by omega)]
   simp at h1 ⊢
   omega
  ·rw[if_neg e2] at h2
   simp at h1 h2
   rw[if_neg (by omega)]
   simp
   omega
theorem bef_self (x:List Int):befB x x=false:=by unfold befB;rw[if_pos rfl,lex_self]
def AscW (ws:List (List Int)):Prop:=∀i j,i<j->j<ws.length->befB (wd ws i) (wd ws j)=true
def findA (f:Nat->Bool):Nat->Nat->Int
 |_,0=>-1
 |k,n+1=>if f k then (k:Int) else findA f (k+1) n
theorem findA_some {f:Nat->Bool}{k n:Nat}(h:0<=findA f k n):∃a:Nat,findA f k n=a/\k<=a/\a<k+n/\f a=true:=by
 induction n generalizing k with
 |zero=>simp[findA] at h
 |succ n ih=>
  unfold findA at h ⊢
  by_cases e:f k=true
  ·rw[if_pos e];exact⟨k,rfl,Nat.le_refl _,by omega,e⟩
  ·rw[if_neg e] at h ⊢
   obtain⟨a,h1,h2,h3,h4⟩:=ih h
   exact⟨a,h1,by omega,by omega,h4⟩
theorem findA_none {f:Nat->Bool}{k n:Nat}(h:∀a,k<=a->a<k+n->f a=false):findA f k n=-1:=by
 induction n generalizing k with
 |zero=>rfl
 |succ n ih=>
  unfold findA
  rw[if_neg (by rw[h k (Nat.le_refl _) (by omega)];simp)]
  exact ih λa h1 h2=>h a (by omega) (by omega)
theorem findA_one {f:Nat->Bool}{k n a:Nat}(h1:k<=a)(h2:a<k+n)(ha:f a=true)(hu:∀b,k<=b->b<a->f b=false):findA f k n=a:=by
 induction n generalizing k with
 |zero=>omega
 |succ n ih=>
  unfold findA
  by_cases e:k=a
  ·subst e;rw[if_pos ha]
  ·rw[if_neg (by rw[hu k (Nat.le_refl _) (by omega)];simp)]
   exact ih (by omega) (by omega) λb hb hb'=>hu b (by omega) hb'
def stW (ws:List (List Int))(x:List Int):Int:=findA (λi=>decide (wd ws i=x)) 0 ws.length
def PlaceW (ws:List (List Int))(x:List Int)(lo hi:Nat):Prop:=(∀i,i<lo->befB (wd ws i) x=true)/\∀i,hi<=i->i<ws.length->befB (wd ws i) x=false
theorem place_up {ws:List (List Int)}{x:List Int}{lo hi m:Nat}(ha:AscW ws)(h:PlaceW ws x lo hi)(hm:m<ws.length)(hb:befB (wd ws m) x=true):PlaceW ws x (m+1) hi:=
 ⟨λi hi=>by
  rcases Nat.lt_succ_iff_lt_or_eq.1 hi with h1|rfl
  ·exact bef_trans (ha i m h1 hm) hb
  ·exact hb,h.2⟩
theorem place_down {ws:List (List Int)}{x:List Int}{lo hi m:Nat}(ha:AscW ws)(h:PlaceW ws x lo hi)(hb:befB (wd ws m) x=false):PlaceW ws x lo m:=
 ⟨h.1,λi h1 h2=>by
  rcases Nat.lt_or_eq_of_le h1 with h3|rfl
  ·cases e:befB (wd ws i) x with
   |false=>rfl
   |true=>rw[bef_trans (ha m i h3 h2) e] at hb;simp at hb
  ·exact hb⟩
theorem place_yes {ws:List (List Int)}{x:List Int}{lo:Nat}(h:PlaceW ws x lo lo)(hl:lo<ws.length)(e:wd ws lo=x):(lo:Int)=stW ws x:=by
 symm
 refine findA_one (Nat.zero_le _) (by omega) (by simpa using e) λb _ hb=>?_
 rw[decide_eq_false_iff_not]
 intro e'
 have:=h.1 b hb
 rw[e',bef_self] at this
 simp at this
theorem place_no {ws:List (List Int)}{x:List Int}{lo:Nat}(ha:AscW ws)(h:PlaceW ws x lo lo)(e:lo<ws.length->wd ws lo≠x):-1=stW ws x:=by
 symm
 refine findA_none λa _ hl=>?_
 rw[decide_eq_false_iff_not]
 intro e'
 rcases Nat.lt_trichotomy a lo with h1|rfl|h1
 ·have:=h.1 a h1
  rw[e',bef_self] at this
  simp at this
 ·exact e (by omega) e'
 ·have h2:=ha lo a h1 (by omega)
  rw[e'] at h2
  have:=h.2 lo (Nat.le_refl _) (by omega)
  rw[h2] at this
  simp at this
theorem halveA (lo hi:Nat)(h:lo<hi)(hb:hi<=4611686018427387903):∃m:Nat,((lo:Int)+hi).tdiv 2=(m:Int)/\lo<=m/\m<hi:=by
 refine⟨(lo+hi)/2,?_,by omega,by omega⟩
 rw[Int.tdiv_eq_ediv_of_nonneg (by omega)]
 omega
theorem l3Place_any (B B':Nat)(v v':Value)(ws:List (List Int))(xs:List Int)(w:World)(h0:HWords B w v ws)(h1:HInts B' w v' xs)(ha:AscW ws)(hl:ws.length<=1048576) :
  Calls Tryz.prog 36 #[v,v'] w λe w'=>(∃lo:Nat,e=.returned (.int .i64 lo)/\lo<=ws.length/\PlaceW ws xs lo lo)/\Nx w w':=by
 have HH:Hid (HWords B w v ws):=h0
 have HX:Hid (HInts B' w v' xs):=h1
 have HA:Hid (AscW ws):=ha
 obtain⟨a,cap,rfl,hn,hk⟩:=h0
 clear h1 ha
 generalize hz:ws.length=n at *
 have HZ:Hid (ws.length=n):=hz
 clear hz
 go_enter Tryz.func36,Tryz.ntmps36
 go_wp2
 go_loopw [5,6,7] (λs5 s6 s7 wr=>∃lo hi:Nat,lo<=hi/\hi<=n/\s5=.int .i64 lo/\s6=.int .i64 hi/\Hid (PlaceW ws xs lo hi)/\Hid (Nx w wr)) (λs5 s6 _ _=>(intOf s6).toNat-(intOf s5).toNat)
 case atStart=>exact⟨0,n,Nat.zero_le _,Nat.le_refl _,rfl,rfl,⟨λi hi=>absurd hi (Nat.not_lt_zero _),λi h1 h2=>by rw[HZ.out] at h2;omega⟩,Nx.refl _⟩
 obtain⟨lo,hi,hlh,hhn,rfl,rfl,HP,HN⟩:=hrel
 by_cases hlt:lo<hi
 ·obtain⟨m,hm,hm1,hm2⟩:=halveA lo hi hlt (by omega)
  have hlt':(lo:Int)<hi:=by omega
  have hmn:(m:Int)<n:=by omega
  obtain⟨b,off,rfl,hB,hb,hc⟩:=hk (by omega)
  obtain⟨vi,hv1,hv2,_⟩:=hc m (by omega)
  have c0:=cell_next HN.out hb hv1
  have HVI:Hid (HInts B wr vi (wd ws m)):=hv2.next HN.out
  have hwm:IntKind.i64.wrap ((lo:Int)+hi)=(lo:Int)+hi:=by rw[IntKind.wrap_i64];omega
  clear hc hk hv1 hv2
  go_wp2_with fail
  refine(l3Before_any B B' _ _ _ xs _ HVI.out (HX.out.next HN.out)).mono ?_
  rintro e w1 ⟨rfl,hx⟩
  have HN1:Hid (Nx w w1):=HN.out.trans hx
  clear hx HN c0
  cases hbf:befB (wd ws m) xs
  ·have HP':Hid (PlaceW ws xs lo m):=place_down HA.out HP.out hbf
   clear hbf
   go_wp2
   go_roundw
   case rel=>exact⟨lo,m,hm1,by omega,rfl,rfl,HP',HN1⟩
   case measure=>simp[intOf];omega
  ·have HP':Hid (PlaceW ws xs (m+1) hi):=place_up HA.out HP.out (by rw[HZ.out];omega) hbf
   clear hbf
   go_wp2
   go_roundw
   case rel=>exact⟨m+1,hi,by omega,hhn,by go_num,rfl,HP',HN1⟩
   case measure=>simp[intOf];omega
 have ek:lo=hi:=by omega
 subst ek
 clear hlt hk
 go_wp2
 go_ret
 exact⟨⟨lo,rfl,hhn,HP.out⟩,HN.out⟩
theorem l3State_any (B B':Nat)(v v':Value)(ws:List (List Int))(xs:List Int)(w:World)(h0:HWords B w v ws)(h1:HInts B' w v' xs)(ha:AscW ws)(hl:ws.length<=1048576) :
  Calls Tryz.prog 19 #[v,v'] w λe w'=>e=.returned (.int .i64 (stW ws xs))/\Nx w w':=by
 have HH:Hid (HWords B w v ws):=h0
 have HX:Hid (HInts B' w v' xs):=h1
 have HA:Hid (AscW ws):=ha
 have HL:Hid (ws.length<=1048576):=hl
 obtain⟨a,cap,rfl,hn,hk⟩:=h0
 clear h1 ha
 generalize hz:ws.length=n at *
 have HZ:Hid (ws.length=n):=hz
 clear hz
 go_enter Tryz.func19,Tryz.ntmps19
 go_wp2_with fail
 refine(l3Place_any B B' _ _ ws xs _ HH.out HX.out HA.out (by rw[HZ.out];exact HL.out)).mono ?_
 rintro e w1 ⟨⟨lo,rfl,hlo,hp⟩,hx⟩
 rw[HZ.out] at hlo
 have HP:Hid (PlaceW ws xs lo lo):=hp
 have HN:Hid (Nx w w1):=hx
 clear hp hx
 by_cases hlt:lo<n
 ·have hlt':(lo:Int)<n:=by omega
  obtain⟨b,off,rfl,hB,hb,hc⟩:=hk (by omega)
  obtain⟨vi,hv1,hv2,_⟩:=hc lo hlt
  have c0:=cell_next HN.out hb hv1
  have HVI:Hid (HInts B w1 vi (wd ws lo)):=hv2.next HN.out
  clear hc hk hv1 hv2
  go_wp2_with fail
  refine(l2Same_any B B' _ _ _ xs _ HVI.out (HX.out.next HN.out)).mono ?_
  rintro e w2 ⟨rfl,hx⟩
  have HN2:Hid (Nx w w2):=HN.out.trans hx
  clear hx c0
  by_cases he:wd ws lo=xs
  ·have HF:Hid ((lo:Int)=stW ws xs):=place_yes HP.out (by rw[HZ.out];exact hlt) he
   have hd:decide (wd ws lo=xs)=true:=by simpa using he
   rw[hd]
   clear he hd
   go_wp2
   go_ret
   exact⟨ret_int HF.out,HN2.out⟩
  ·have HF:Hid (-1=stW ws xs):=place_no HA.out HP.out λ_=>he
   have hd:decide (wd ws lo=xs)=false:=by simpa using he
   rw[hd]
   clear he hd
   go_wp2
   go_ret
   exact⟨ret_int HF.out,HN2.out⟩
 have hlt':¬(lo:Int)<n:=by omega
 have HF:Hid (-1=stW ws xs):=place_no HA.out HP.out λh=>by rw[HZ.out] at h;omega
 clear hlt hk
 go_wp2
 go_ret
 exact⟨ret_int HF.out,HN.out⟩
def lngW (ws:List (List Int))(x:List Int):Nat->Nat->Int
 |_,0=>-1
 |k,f+1=>if 0<=stW ws (x.drop k) then stW ws (x.drop k) else lngW ws x (k+1) f
theorem iat_drop (x:List Int)(k i:Nat):iat (x.drop k) i=iat x (k+i):=by simp[iat,List.getD]
theorem HInts.drop {B:Nat}{w:World}{a:Option Addr}{n c k c':Nat}{xs:List Int}(h:HInts B w (.slice a n c) xs)(hk:k<=n)(a':Option Addr)(ha:∀b off,a=some ⟨b,off,none⟩->0<n-k->a'=some ⟨b,off+k,none⟩):HInts B w (.slice a' (n-k) c') (xs.drop k):=by
 obtain⟨a0,cap,e,hn,hc⟩:=h
 simp only[Value.slice.injEq] at e
 obtain⟨rfl,rfl,rfl⟩:=e
 refine⟨a',c',by rw[List.length_drop],by rw[List.length_drop];omega,λh0=>?_⟩
 rw[List.length_drop] at h0
 obtain⟨b,off,rfl,hB,hb,hcc⟩:=hc (by omega)
 refine⟨b,off+k,ha b off rfl h0,hB,hb,λi hi=>?_⟩
 rw[List.length_drop] at hi
 show w.cell? ⟨b,off+k+i,none⟩=_
 rw[iat_drop,Nat.add_assoc]
 exact hcc (k+i) (by omega)
theorem l3Longest_any (B B':Nat)(v v':Value)(ws:List (List Int))(xs:List Int)(k0:Nat)(w:World)(h0:HWords B w v ws)(h1:HInts B' w v' xs)(ha:AscW ws)(hl:ws.length<=1048576)(hx:xs.length<=1048576)(hk0:k0<=xs.length+1)(hcp:CapOk v') :
  Calls Tryz.prog 20 #[v,v',.int .i64 k0] w λe w'=>e=.returned (.int .i64 (lngW ws xs k0 (xs.length+1-k0)))/\Nx w w':=by
 have HH:Hid (HWords B w v ws):=h0
 have HX:Hid (HInts B' w v' xs):=h1
 have HA:Hid (AscW ws):=ha
 have HL:Hid (ws.length<=1048576):=hl
 obtain⟨a,cap,rfl,hn,hk⟩:=h1
 obtain⟨a',n',c',e,hcp⟩:=hcp
 simp only[Value.slice.injEq] at e
 obtain⟨rfl,rfl,rfl⟩:=e
 clear ha h0 hk
 generalize hz:xs.length=n at *
 have HZ:Hid (xs.length=n):=hz
 have HC:Hid (n<=cap):=hcp
 clear hz hcp
 go_enter Tryz.func20,Tryz.ntmps20
 go_wp2
 go_loopw [7,8] (λi z wr=>∃k:Nat,k<=n+1/\i=.int .i64 k/\Hid (lngW ws xs k0 (n+1-k0)=lngW ws xs k (n+1-k))/\Hid (Nx w wr)) (λi _ _=>n+1-(intOf i).toNat)
 case atStart=>exact⟨k0,hk0,rfl,rfl,Nx.refl _⟩
 obtain⟨k,hkn,rfl,HE,HN⟩:=hrel
 by_cases hlt:k<=n
 ·have hlt':(k:Int)<=n:=by omega
  have HE':Hid (lngW ws xs k0 (n+1-k0)=if 0<=stW ws (xs.drop k) then stW ws (xs.drop k) else lngW ws xs (k+1) (n+1-(k+1))):=by
   unfold Hid
   rw[HE.out,show n+1-k=(n+1-(k+1))+1 by omega,lngW]
  by_cases hck:cap=k
  ·have hnk:n-k=0:=by have:=HC.out;omega
   have HD:Hid (HInts B' wr (.slice a (n-k) 0) (xs.drop k)):=(HX.out.next HN.out).drop (by omega) a (λb off _ h=>by omega)
   subst hck
   clear hnk
   go_wp2_with fail
   refine(l3State_any B B' _ _ ws (xs.drop cap) _ (HH.out.next HN.out) HD.out HA.out HL.out).mono ?_
   rintro e w1 ⟨rfl,hx1⟩
   have HN1:Hid (Nx w w1):=HN.out.trans hx1
   clear hx1 HN HD
   generalize stW ws (xs.drop cap)=z at *
   by_cases hz:0<=z
   ·have hd:decide (0<=z)=true:=by simpa using hz
    have HF:Hid (z=lngW ws xs k0 (n+1-k0)):=by unfold Hid;rw[HE'.out,if_pos hz]
    clear hz
    go_wp2
    go_ret
    exact⟨ret_int HF.out,HN1.out⟩
   ·have hd:decide (0<=z)=false:=by simpa using hz
    have HF:Hid (lngW ws xs k0 (n+1-k0)=lngW ws xs (cap+1) (n+1-(cap+1))):=by unfold Hid;rw[HE'.out,if_neg hz]
    clear hz
    go_wp2
    go_roundw
    case rel=>exact⟨cap+1,by omega,by go_num,HF,HN1⟩
    case measure=>simp[intOf];omega
  ·have HD:Hid (HInts B' wr (.slice (Option.map (λx=>x.add k) a) (n-k) (cap-k)) (xs.drop k)):=(HX.out.next HN.out).drop (by omega) _ (λb off e h=>by rw[e];exact congrArg some (Addr.add_lit _ _ _))
   go_wp2_with fail
   refine(l3State_any B B' _ _ ws (xs.drop k) _ (HH.out.next HN.out) HD.out HA.out HL.out).mono ?_
   rintro e w1 ⟨rfl,hx1⟩
   have HN1:Hid (Nx w w1):=HN.out.trans hx1
   clear hx1 HN HD
   generalize stW ws (xs.drop k)=z at *
   by_cases hz:0<=z
   ·have hd:decide (0<=z)=true:=by simpa using hz
    have HF:Hid (z=lngW ws xs k0 (n+1-k0)):=by unfold Hid;rw[HE'.out,if_pos hz]
    clear hz
    go_wp2
    go_ret
    exact⟨ret_int HF.out,HN1.out⟩
   ·have hd:decide (0<=z)=false:=by simpa using hz
    have HF:Hid (lngW ws xs k0 (n+1-k0)=lngW ws xs (k+1) (n+1-(k+1))):=by unfold Hid;rw[HE'.out,if_neg hz]
    clear hz
    go_wp2
    go_roundw
    case rel=>exact⟨k+1,by omega,by go_num,HF,HN1⟩
    case measure=>simp[intOf];omega
 have ek:k=n+1:=by omega
 have hlt':¬(k:Int)<=n:=by omega
 have HF:Hid (-1=lngW ws xs k0 (n+1-k0)):=by unfold Hid;rw[HE.out,ek,Nat.sub_self,lngW]
 clear hlt ek
 go_wp2
 go_ret
 exact⟨ret_int HF.out,HN.out⟩
structure Au where
 pa:List Int
 la:List Int
 fa:List Int
 mu:List Int
 bd:List Bool
def bat (bs:List Bool)(i:Nat):Bool:=bs.getD i false
theorem bat_eq {zs:List Bool}{i:Nat}(h:i<zs.length):bat zs i=zs[i]:=by simp[bat,List.getD,h]
def HBools (B:Nat)(w:World)(v:Value)(bs:List Bool):Prop:=
 HSlice B w v bs.length λb off i=>w.cell? ⟨b,off+i,none⟩=some (.bool (bat bs i))
theorem HBools.keep {B:Nat}{w w':World}{v:Value}{bs:List Bool}(h:HBools B w v bs)(k:Keeps B w w'):HBools B w' v bs:=
 HSlice.mono h (Nat.le_refl _) k.1 λb off hb hs i hi hc=>(k.2 b hb hs _).trans hc
theorem HBools.next {B:Nat}{w w':World}{v:Value}{bs:List Bool}(h:HBools B w v bs)(k:Nx w w'):HBools B w' v bs:=h.keep (k.keeps B)
theorem HBools.base {B B':Nat}{w:World}{v:Value}{bs:List Bool}(h:HBools B w v bs)(hB:B'<=B):HBools B' w v bs:=
 HSlice.mono h hB (Nat.le_refl _) λb off hb hs i hi hc=>hc
structure HA (B:Nat)(w:World)(v0 v1 v2 v3 v4:Value)(A:Au):Prop where
 h0:HInts B w v0 A.pa
 h1:HInts B w v1 A.la
 h2:HInts B w v2 A.fa
 h3:HInts B w v3 A.mu
 h4:HBools B w v4 A.bd
theorem HA.keep {B:Nat}{w w':World}{v0 v1 v2 v3 v4:Value}{A:Au}(h:HA B w v0 v1 v2 v3 v4 A)(k:Keeps B w w'):HA B w' v0 v1 v2 v3 v4 A:=⟨h.h0.keep k,h.h1.keep k,h.h2.keep k,h.h3.keep k,h.h4.keep k⟩
theorem HA.next {B:Nat}{w w':World}{v0 v1 v2 v3 v4:Value}{A:Au}(h:HA B w v0 v1 v2 v3 v4 A)(k:Nx w w'):HA B w' v0 v1 v2 v3 v4 A:=h.keep (k.keeps B)
def nw (A:Au)(ws:List (List Int))(s:Nat):List Int:=wd ws (iat A.pa s).toNat++[iat A.la s]
def okR (A:Au)(s:Nat):Bool:=decide (0<=iat A.pa s)&&(decide (iat A.pa s<(s:Int))&&(decide (0<=iat A.la s)&&decide (iat A.la s<4000)))
def okW (A:Au)(ws:List (List Int))(s:Nat):Bool:=okR A s&&(decide ((nw A ws s).length<=402)&&befB (wd ws (s-1)) (nw A ws s))
def okS (A:Au)(ws:List (List Int))(s:Nat):Bool:=if s=0 then (iat A.pa 0==-1)&&(iat A.la 0==-1) else okW A ws s
def spellK (A:Au):Nat->List (List Int)×Bool
 |0=>([],true)
 |s+1=>if ((spellK A s).2&&okS A (spellK A s).1 s)=true then ((spellK A s).1++[if s=0 then [] else nw A (spellK A s).1 s],true) else ((spellK A s).1,false)
theorem spellK_go {A:Au}{s:Nat}{ws:List (List Int)}(h:spellK A s=(ws,true))(ho:okS A ws s=true):spellK A (s+1)=(ws++[if s=0 then [] else nw A ws s],true):=by
 rw[spellK,h]
 simp[ho]
theorem spellK_stop {A:Au}{s:Nat}{ws:List (List Int)}(h:spellK A s=(ws,true))(ho:okS A ws s=false)(d:Nat):spellK A (s+1+d)=(ws,false):=by
 induction d with
 |zero=>rw[Nat.add_zero,spellK,h];simp[ho]
 |succ d ih=>rw[<-Nat.add_assoc,spellK,ih];simp
theorem HWords.at {B:Nat}{w:World}{a:Option Addr}{n c:Nat}{ws:List (List Int)}(h:HWords B w (.slice a n c) ws)(h0:0<n):∃b off,a=some ⟨b,off,none⟩/\∀i,i<n->∃vi,w.cell? ⟨b,off+i,none⟩=some vi/\HInts B w vi (wd ws i)/\CapOk vi:=by
 obtain⟨a',c',e,_,hk⟩:=h
 simp only[Value.slice.injEq] at e
 obtain⟨rfl,rfl,rfl⟩:=e
 obtain⟨b,off,ha,_,_,hc⟩:=hk h0
 exact⟨b,off,ha,hc⟩
theorem spell_len {A:Au}{s:Nat}{ws:List (List Int)}(h:spellK A s=(ws,true)):∀i,(wd ws i).length<=402:=by
 induction s generalizing ws with
 |zero=>
  rw[spellK] at h
  obtain⟨rfl,_⟩:=Prod.mk.inj h
  intro i
  simp[wd]
 |succ s ih=>
  rw[spellK] at h
  split at h
  ·rename_i hc
   simp only[Bool.and_eq_true] at hc
   have h1:=ih (ws:=(spellK A s).1) (by rw[<-hc.1])
   obtain⟨rfl,_⟩:=Prod.mk.inj h
   intro i
   by_cases e:i<(spellK A s).1.length
   ·rw[wd_snoc e];exact h1 i
   ·by_cases e':i=(spellK A s).1.length
    ·rw[wd_end e']
     split
     ·simp
     ·rename_i hs
      have:=hc.2
      unfold okS okW at this
      rw[if_neg hs] at this
      simp only[Bool.and_eq_true,decide_eq_true_eq] at this
      exact this.2.1
    ·have:wd ((spellK A s).1++[if s=0 then [] else nw A (spellK A s).1 s]) i=[]:=by
      simp[wd,List.getD,List.getElem?_eq_none (show((spellK A s).1++[if s=0 then [] else nw A (spellK A s).1 s]).length<=i by simp;omega)]
     rw[this]
     simp
  ·obtain⟨_,h2⟩:=Prod.mk.inj h
   simp at h2
theorem l3Spell_any (B:Nat)(v0 v1 v2 v3 v4:Value)(A:Au)(w:World)(h0:HA B w v0 v1 v2 v3 v4 A)(hl:A.la.length=A.pa.length)(hn:A.pa.length<=2000) :
  Calls Tryz.prog 25 #[.agg #[v0,v1,v2,v3,v4]] w λe w'=>(∃v,e=.returned v/\OwnW w.heap.size w' v (spellK A A.pa.length).1)/\Nx w w':=by
 obtain⟨ii,hi,hz0,hz1,hz2⟩:=info_parts infoWord
 obtain⟨⟨a0,c0,rfl,hm0,hk0⟩,⟨a1,c1,rfl,hm1,hk1⟩,h2,h3,h4⟩:=h0
 clear h2 h3 h4 hm0 hm1
 rw[hl] at hk1 ⊢
 generalize hz:A.pa.length=n at *
 clear hl
 clear hz
 have HO1:Hid (OwnW (w.heap.size+1) ((w.alloc (.cells #[.slice a0 n c0,.slice a1 n c1,v2,v3,v4] 28)).alloc (.cells #[] 51)) (.slice (some ⟨w.heap.size+1,0,none⟩) 0 0) []):=by
  unfold Hid
  have:=ownW_none (w.heap.size+1) (w.alloc (.cells #[.slice a0 n c0,.slice a1 n c1,v2,v3,v4] 28)) (by simp)
  simpa using this
 go_enter Tryz.func25,Tryz.ntmps25
 go_wp2
 go_loopw [3,4,5] (λv i s5 wr=>∃k:Nat,k<=n/\i=.int .i64 k/\Hid (∃ws,spellK A k=(ws,true)/\ws.length=k/\OwnW (w.heap.size+1) wr v ws)/\Hid (Nx (w.alloc (.cells #[.slice a0 n c0,.slice a1 n c1,v2,v3,v4] 28)) wr)) (λ_ i _ _=>n-(intOf i).toNat)
 case atStart=>exact⟨0,Nat.zero_le _,rfl,⟨[],rfl,rfl,HO1.out⟩,box1 _ _⟩
 clear HO1
 obtain⟨k,hkn,rfl,HP,HN⟩:=hrel
 have HW:Hid (Nx w wr):=(box1 _ _).trans HN.out
 have BA:=(Blk.new w #[.slice a0 n c0,.slice a1 n c1,v2,v3,v4] 28 _ rfl).next HN.out
 have HBA:Hid (Blk wr w.heap.size #[.slice a0 n c0,.slice a1 n c1,v2,v3,v4]):=BA
 have HZ3:Hid (w.heap.size+1<=wr.heap.size):=by have:=HN.out.size;unfold Hid;simpa using this
 by_cases hlt:k<n
 ·have hlt':(k:Int)<n:=by omega
  obtain⟨b0,o0,ha0,_,hb0,hc0⟩:=hk0 (by omega)
  obtain⟨b1,o1,ha1,_,hb1,hc1⟩:=hk1 (by omega)
  subst ha0 ha1
  obtain⟨ws,hsp,hwl,hwo⟩:=HP.out
  obtain⟨av,cv,hvs⟩:=hwo.slice
  rw[hwl] at hvs
  subst hvs
  have HWO:Hid (OwnW (w.heap.size+1) wr (.slice av k cv) ws):=hwo
  have HSP:Hid (spellK A k=(ws,true)):=hsp
  have HWL:Hid (ws.length=k):=hwl
  have HLW:Hid (∀i,(wd ws i).length<=402):=spell_len hsp
  have x0:=cell_next HW.out hb0 (hc0 k hlt)
  have y0:=cell_next HW.out hb1 (hc1 k hlt)
  have k0:=BA.cell (i:=0) rfl
  have k1:=BA.cell (i:=1) rfl
  have HRS:Hid (okS A ws k=false->OwnW w.heap.size wr (.slice av k cv) (spellK A n).1):=λh=>by
   have:=spellK_stop HSP.out h (n-(k+1))
   rw[show k+1+(n-(k+1))=n by omega] at this
   rw[this]
   obtain⟨cs,q1,q2⟩:=HWO.out
   refine⟨cs,?_,λi hi=>(q2 i hi).base (Nat.le_succ _)⟩
   obtain⟨r1,r2⟩:=q1
   refine⟨r1,?_⟩
   rcases r2 with r2|⟨g,cap,cur,hv,hg,r⟩
   ·exact Or.inl r2
   ·exact Or.inr ⟨g,cap,cur,hv,by omega,r⟩
  clear hc0 hc1 hk0 hk1 HP hsp hwl hwo BA
  by_cases hk:k=0
  ·subst hk
   rw[Nat.add_zero] at x0 y0
   have hn0:(0:Int)<n:=by omega
   by_cases g1:iat A.pa 0=-1
   ·have f1:(iat A.pa 0 !=-1)=false:=by simpa using g1
    by_cases g2:iat A.la 0=-1
    ·have f2:(iat A.la 0 !=-1)=false:=by simpa using g2
     have HOK:Hid (okS A ws 0=true):=by unfold Hid okS;simp[g1,g2]
     have HRO:Hid (OwnI (w.heap.size+1) (wr.alloc (.cells #[] 2)) (.slice (some ⟨wr.heap.size,0,none⟩) 0 0) []):=ownI_none _ wr HZ3.out
     have HWO':Hid (OwnW (w.heap.size+1) (wr.alloc (.cells #[] 2)) (.slice av 0 cv) ws):=HWO.out.next (box1 _ _)
     clear g1 g2
     obtain⟨cs,q1,q2⟩:=HWO'.out
     have HQ1:Hid ((wr.alloc (.cells #[] 2)).ownsRow (w.heap.size+1) 51 1 (.slice av 0 cv) ws.length cs):=q1
     have HQ2:Hid (∀i,i<ws.length->OwnI (w.heap.size+1) (wr.alloc (.cells #[] 2)) (vat cs i) (wd ws i)):=q2
     clear q1 q2
     go_wp2_with (at_builtin;refine wpList_append_own_at _ rfl _ _ 48 rfl (w.heap.size+1) 51 ii (.agg #[.slice none 0 0]) 1 24 Tryz.underlying48 hi hz0 hz1 hz2 rfl (by decide) _ _ _ rfl (World.ownsRow.alloc HQ1.out _) ⟨wr.heap.size+1,0,none⟩ 1 1 [.slice (some ⟨wr.heap.size,0,none⟩) 0 0] rfl rfl ?c1 ?c2 ?c3 ?c4 ?c5 ?_)
     case c1=>
      intro j u hj
      have:=new_cells (wr.alloc (.cells #[] 2)) _ 51 [.slice (some ⟨wr.heap.size,0,none⟩) 0 0] rfl j u hj
      rwa [size_alloc'] at this
     case c2=>intro u hu;simp at hu;subst hu;rfl
     case c3=>rw[HWL.out];unfold maxLen;omega
     case c4=>rw[HWL.out];omega
     case c5=>have:=HZ3.out;simp;omega
     intro v7 w7 hown hgrow _ _
     have HO7:Hid (OwnW (w.heap.size+1) w7 v7 (ws++[[]])):=OwnW.snoc HQ1.out HQ2.out HRO.out _ hgrow hown
     have HS7:Hid (spellK A 1=(ws++[[]],true)):=spellK_go HSP.out HOK.out
     have HN7:Hid (Nx (w.alloc (.cells #[.slice (some ⟨b0,o0,none⟩) n c0,.slice (some ⟨b1,o1,none⟩) n c1,v2,v3,v4] 28)) w7):=Below.grown ((HN.out.alloc _).alloc _) hgrow (by have:=HZ3.out;simp;omega) (λg hg=>by have:=(own_lt HQ1.out g hg).1;simpa using this)
     clear hown hgrow HQ1 HQ2 HRO HWO' x0 y0 k0 k1 HN
     go_wp2
     go_roundw
     case rel=>exact⟨1,by omega,by go_num,⟨_,HS7.out,by rw[List.length_append,HWL.out];rfl,HO7.out⟩,HN7⟩
     case measure=>simp[intOf];omega
    ·have f2:(iat A.la 0 !=-1)=true:=by simpa using g2
     have HF:Hid (OwnW w.heap.size wr (.slice av 0 cv) (spellK A n).1):=HRS.out (by unfold okS;simp;omega)
     clear g1 g2
     go_wp2
     go_ret
     exact⟨⟨_,rfl,HF.out⟩,HW.out⟩
   ·have f1:(iat A.pa 0 !=-1)=true:=by simpa using g1
    have HF:Hid (OwnW w.heap.size wr (.slice av 0 cv) (spellK A n).1):=HRS.out (by unfold okS;simp;omega)
    clear g1
    go_wp2
    go_ret
    exact⟨⟨_,rfl,HF.out⟩,HW.out⟩
  have hkz:((k:Int)==0)=false:=by simp;omega
  have HOD:Hid (okS A ws k=okW A ws k):=by unfold Hid okS;rw[if_neg hk]
  have HK1:Hid (1<=k):=by unfold Hid;omega
  clear hk
  by_cases g1:iat A.pa k<0
  ·have f1:decide (iat A.pa k<0)=true:=by simpa using g1
   have HF:Hid (OwnW w.heap.size wr (.slice av k cv) (spellK A n).1):=HRS.out (by rw[HOD.out];unfold okW okR;simp;omega)
   clear g1
   go_wp2
   go_ret
   exact⟨⟨_,rfl,HF.out⟩,HW.out⟩
  have f1:decide (iat A.pa k<0)=false:=by simpa using g1
  by_cases g2:(k:Int)<=iat A.pa k
  ·have f2:decide ((k:Int)<=iat A.pa k)=true:=by simpa using g2
   have HF:Hid (OwnW w.heap.size wr (.slice av k cv) (spellK A n).1):=HRS.out (by rw[HOD.out];unfold okW okR;simp;omega)
   clear g1 g2
   go_wp2
   go_ret
   exact⟨⟨_,rfl,HF.out⟩,HW.out⟩
  have f2:decide ((k:Int)<=iat A.pa k)=false:=by simpa using g2
  by_cases g3:iat A.la k<0
  ·have f3:decide (iat A.la k<0)=true:=by simpa using g3
   have HF:Hid (OwnW w.heap.size wr (.slice av k cv) (spellK A n).1):=HRS.out (by rw[HOD.out];unfold okW okR;simp;omega)
   clear g1 g2 g3
   go_wp2
   go_ret
   exact⟨⟨_,rfl,HF.out⟩,HW.out⟩
  have f3:decide (iat A.la k<0)=false:=by simpa using g3
  by_cases g4:4000<=iat A.la k
  ·have f4:decide (4000<=iat A.la k)=true:=by simpa using g4
   have HF:Hid (OwnW w.heap.size wr (.slice av k cv) (spellK A n).1):=HRS.out (by rw[HOD.out];unfold okW okR;simp;omega)
   clear g1 g2 g3 g4
   go_wp2
   go_ret
   exact⟨⟨_,rfl,HF.out⟩,HW.out⟩
  have f4:decide (4000<=iat A.la k)=false:=by simpa using g4
  have HOR:Hid (okR A k=true):=by unfold Hid okR;simp;omega
  obtain⟨p,hp⟩:∃p:Nat,iat A.pa k=(p:Int):=⟨(iat A.pa k).toNat,by omega⟩
  have hpk:p<k:=by omega
  have hpk':(p:Int)<k:=by omega
  have HNW:Hid (nw A ws k=wd ws p++[iat A.la k]):=by unfold Hid nw;rw[hp,Int.toNat_natCast]
  rw[hp] at x0 f1 f2
  clear g1 g2 g3 g4 hp
  obtain⟨gw,ow,hav,hcw⟩:=HWO.out.held.at (by omega)
  subst hav
  obtain⟨vp,hvp1,hvp2,_⟩:=hcw p hpk
  obtain⟨vq,hvq1,hvq2,_⟩:=hcw (k-1) (by omega)
  have HVP:Hid (HInts (w.heap.size+1) wr vp (wd ws p)):=hvp2
  have HVQ:Hid (HInts (w.heap.size+1) wr vq (wd ws (k-1))):=hvq2
  have HLP:Hid ((wd ws p).length<=402):=HLW.out p
  have HVQ1:Hid (wr.cell? ⟨gw,ow+(k-1),none⟩=some vq):=hvq1
  clear hcw hvp2 hvq2 hvq1
  generalize hla:iat A.la k=lk at *
  have HLA:Hid (iat A.la k=lk):=hla
  clear hla
  have ne1:=World.new_ne wr _ hvp1
  have ne2:=World.new_ne wr _ x0
  have ne3:=World.new_ne wr _ y0
  have ne4:=World.new_ne wr _ k0
  go_upto_region 11 with fail
  go_cut [5] from 7 to 101 (λs5 wc=>Hid (OwnI wr.heap.size wc s5 (wd ws p++[lk]))/\Hid (Nx wr wc))
  case first=>
   go_region_held3 (λw'=>w'.cell? ⟨w.heap.size,0,none⟩=some (.slice (some ⟨b0,o0,none⟩) n c0)/\w'.cell? ⟨w.heap.size,1,none⟩=some (.slice (some ⟨b1,o1,none⟩) n c1)/\w'.cell? ⟨b0,o0+k,none⟩=some (.int .i64 (p:Int))/\w'.cell? ⟨b1,o1+k,none⟩=some (.int .i64 lk)/\w'.cell? ⟨gw,ow+p,none⟩=some vp) (go_keep) (first|(go_at_call 44;refine(l2Plus_any (w.heap.size+1) wr.heap.size _ _ (wd ws p) [lk] _ (by first|exact HVP.out.next ((Nx.refl wr).drew.alloc _)|exact HVP.out.next ((Nx.refl wr).alloc _).drew) (by first|exact(ownI_one wr.heap.size wr.drew lk (Nat.le_refl _)).held|exact(ownI_one wr.heap.size wr lk (Nat.le_refl _)).drew.held) (by have:=HLP.out;omega) (by simp)).mono ?_;rintro e w1 ⟨⟨u,rfl,hu⟩,hx⟩;have hxw:Nx wr w1:=(by first|exact(((Nx.refl wr).alloc _).drew).trans hx|exact((Nx.refl wr).drew.alloc _).trans hx);have t0:=cellq hxw k0;have t1:=cellq hxw k1;have t2:=cellq hxw x0;have t3:=cellq hxw y0;have t4:=cellq hxw hvp1))
   all_goals go_wp2
   all_goals go_meet
   all_goals exact⟨hu.base (Nat.le_of_lt (by simp)),hxw⟩
  case rest=>
  obtain⟨HU,HC⟩:=hcut
  rw[<-HNW.out] at HU
  have HWc:Hid (Nx w wc):=HW.out.trans HC.out
  have HNc:Hid (Nx (w.alloc (.cells #[.slice (some ⟨b0,o0,none⟩) n c0,.slice (some ⟨b1,o1,none⟩) n c1,v2,v3,v4] 28)) wc):=HN.out.trans HC.out
  have HWOc:Hid (OwnW (w.heap.size+1) wc (.slice (some ⟨gw,ow,none⟩) k cv) ws):=HWO.out.next HC.out
  have HUc:Hid (OwnI (w.heap.size+1) wc u5 (nw A ws k)):=HU.out.base HZ3.out
  have HZc:Hid (w.heap.size+1<=wc.heap.size):=Nat.le_trans HZ3.out HC.out.size
  have HVQc:Hid (HInts (w.heap.size+1) wc vq (wd ws (k-1))):=HVQ.out.next HC.out
  have HRSc:Hid (okS A ws k=false->OwnW w.heap.size wc (.slice (some ⟨gw,ow,none⟩) k cv) (spellK A n).1):=λh=>(HRS.out h).next HC.out
  have hvq:=cellq HC.out HVQ1.out
  have HOKW:Hid (okW A ws k=(decide ((nw A ws k).length<=402)&&befB (wd ws (k-1)) (nw A ws k))):=by unfold Hid okW;rw[HOR.out,Bool.true_and]
  obtain⟨au,cu,hus⟩:=HUc.out.slice
  subst hus
  generalize hnl:(nw A ws k).length=nl at *
  have HNL:Hid ((nw A ws k).length=nl):=hnl
  clear hnl x0 y0 k0 k1 hvp1 ne1 ne2 ne3 ne4 HVP HVQ HU HWO HRS HN HW HC f1 f2 f3 f4 hpk'
  obtain⟨j,rfl⟩:∃j,k=j+1:=⟨k-1,by have:=HK1.out;omega⟩
  have hwj:=wrapJ j (by omega)
  have hjl:(j:Int)<(j:Int)+1:=by omega
  rw[Nat.add_sub_cancel] at hvq HVQc HOKW
  by_cases g5:nl<=402
  case neg=>
   have f5:decide (402<(nl:Int))=true:=by simp;omega
   have HF:Hid (OwnW w.heap.size wc (.slice (some ⟨gw,ow,none⟩) (j+1) cv) (spellK A n).1):=HRSc.out (by rw[HOD.out,HOKW.out];simp;omega)
   clear g5
   go_wp2
   go_ret
   exact⟨⟨_,rfl,HF.out⟩,HWc.out⟩
  have f5:decide (402<(nl:Int))=false:=by simp;omega
  go_wp2_with fail
  refine(l3Before_any (w.heap.size+1) (w.heap.size+1) _ _ (wd ws j) (nw A ws (j+1)) _ HVQc.out HUc.out.held).mono ?_
  rintro e w2 ⟨rfl,hx⟩
  have HC2:Hid (Nx wc w2):=hx
  have HW2:Hid (Nx w w2):=HWc.out.trans hx
  clear hx hvq
  cases hbf:befB (wd ws j) (nw A ws (j+1))
  ·have HF:Hid (OwnW w.heap.size w2 (.slice (some ⟨gw,ow,none⟩) (j+1) cv) (spellK A n).1):=(HRSc.out (by rw[HOD.out,HOKW.out,hbf];simp)).next HC2.out
   clear hbf g5
   go_wp2
   go_ret
   exact⟨⟨_,rfl,HF.out⟩,HW2.out⟩
  have HOK:Hid (okS A ws (j+1)=true):=by unfold Hid;rw[HOD.out,HOKW.out,hbf];simp;omega
  have HWO2:Hid (OwnW (w.heap.size+1) w2 (.slice (some ⟨gw,ow,none⟩) (j+1) cv) ws):=HWOc.out.next HC2.out
  have HU2:Hid (OwnI (w.heap.size+1) w2 (.slice au nl cu) (nw A ws (j+1))):=HUc.out.next HC2.out
  have HN2:Hid (Nx (w.alloc (.cells #[.slice (some ⟨b0,o0,none⟩) n c0,.slice (some ⟨b1,o1,none⟩) n c1,v2,v3,v4] 28)) w2):=HNc.out.trans HC2.out
  have HZ2:Hid (w.heap.size+1<=w2.heap.size):=Nat.le_trans HZc.out HC2.out.size
  obtain⟨cs,q1,q2⟩:=HWO2.out
  have HQ1:Hid (w2.ownsRow (w.heap.size+1) 51 1 (.slice (some ⟨gw,ow,none⟩) (j+1) cv) ws.length cs):=q1
  have HQ2:Hid (∀i,i<ws.length->OwnI (w.heap.size+1) w2 (vat cs i) (wd ws i)):=q2
  clear q1 q2 hbf g5 HRSc HWOc HUc HNc HVQc
  go_wp2_with (at_builtin;refine wpList_append_own_at _ rfl _ _ 48 rfl (w.heap.size+1) 51 ii (.agg #[.slice none 0 0]) 1 24 Tryz.underlying48 hi hz0 hz1 hz2 rfl (by decide) _ _ _ rfl (World.ownsRow.alloc HQ1.out _) ⟨w2.heap.size,0,none⟩ 1 1 [.slice au nl cu] rfl rfl (λj u hj=>new_cells w2 _ _ _ rfl j u hj) ?c2 ?c3 ?c4 ?c5 ?_)
  case c2=>intro u hu;simp at hu;subst hu;rfl
  case c3=>rw[HWL.out];unfold maxLen;omega
  case c4=>rw[HWL.out];omega
  case c5=>have:=HZ2.out;simp;omega
  intro v7 w7 hown hgrow _ _
  have HO7:Hid (OwnW (w.heap.size+1) w7 v7 (ws++[nw A ws (j+1)])):=OwnW.snoc HQ1.out HQ2.out HU2.out _ hgrow hown
  have HS7:Hid (spellK A (j+1+1)=(ws++[nw A ws (j+1)],true)):=spellK_go HSP.out HOK.out
  have HN7:Hid (Nx (w.alloc (.cells #[.slice (some ⟨b0,o0,none⟩) n c0,.slice (some ⟨b1,o1,none⟩) n c1,v2,v3,v4] 28)) w7):=Below.grown (HN2.out.alloc _) hgrow (by have:=HZ2.out;simp;omega) (λg hg=>by have:=(own_lt HQ1.out g hg).1;simpa using this)
  clear hown hgrow HQ1 HQ2 HU2 HWO2 HN2
  go_wp2
  go_roundw
  case rel=>exact⟨j+1+1,by omega,by go_num,⟨_,HS7.out,by rw[List.length_append,HWL.out];rfl,HO7.out⟩,HN7⟩
  case measure=>simp[intOf];omega
 have ek:n=k:=by omega
 subst ek
 have k0:=BA.cell (i:=0) rfl
 have HF:Hid (OwnW w.heap.size wr u3 (spellK A n).1):=by
  obtain⟨ws,hsp,hwl,hwo⟩:=HP.out
  unfold Hid
  rw[hsp]
  obtain⟨cs,q1,q2⟩:=hwo
  refine⟨cs,?_,λi hi=>(q2 i hi).base (Nat.le_succ _)⟩
  obtain⟨r1,r2⟩:=q1
  refine⟨r1,?_⟩
  rcases r2 with r2|⟨g,cap,cur,hv,hg,r⟩
  ·exact Or.inl r2
  ·exact Or.inr ⟨g,cap,cur,hv,by omega,r⟩
 clear HP BA hlt hkn
 go_wp2
 go_ret
 exact⟨⟨_,rfl,HF.out⟩,HW.out⟩
theorem spell_cnt {A:Au}{s:Nat}:((spellK A s).2=true->(spellK A s).1.length=s)/\((spellK A s).2=false->(spellK A s).1.length<s):=by
 induction s with
 |zero=>exact⟨λ_=>rfl,λh=>by simp[spellK] at h⟩
 |succ s ih=>
  rw[spellK]
  split
  ·rename_i hc
   simp only[Bool.and_eq_true] at hc
   exact⟨λ_=>by rw[List.length_append,ih.1 hc.1];rfl,λh=>by simp at h⟩
  ·refine⟨λh=>by simp at h,λ_=>?_⟩
   show(spellK A s).1.length<s+1
   cases e:(spellK A s).2 with
   |true=>rw[ih.1 e];omega
   |false=>have:=ih.2 e;omega
theorem spell_asc {A:Au}{s:Nat}{ws:List (List Int)}(h:spellK A s=(ws,true)):AscW ws:=by
 induction s generalizing ws with
 |zero=>
  rw[spellK] at h
  obtain⟨rfl,_⟩:=Prod.mk.inj h
  intro i j _ hj
  simp at hj
 |succ s ih=>
  rw[spellK] at h
  split at h
  ·rename_i hc
   simp only[Bool.and_eq_true] at hc
   have h1:=ih (ws:=(spellK A s).1) (by rw[<-hc.1])
   have hl:=spell_cnt.1 hc.1
   obtain⟨rfl,_⟩:=Prod.mk.inj h
   intro i j hij hj
   rw[List.length_append,List.length_singleton,hl] at hj
   by_cases e:j<s
   ·rw[wd_snoc (by omega),wd_snoc (by omega)]
    exact h1 i j hij (by omega)
   ·have ej:j=s:=by omega
    subst ej
    rw[wd_snoc (i:=i) (by omega),wd_end (i:=j) (by omega),if_neg (by omega)]
    have hb:=hc.2
    unfold okS okW at hb
    rw[if_neg (by omega)] at hb
    simp only[Bool.and_eq_true] at hb
    rcases Nat.lt_or_eq_of_le (show i<=j-1 by omega) with h2|h2
    ·exact bef_trans (h1 i (j-1) h2 (by omega)) hb.2.2
    ·rw[h2];exact hb.2.2
  ·obtain⟨_,h2⟩:=Prod.mk.inj h
   simp at h2
def lensOk (A:Au):Bool:=decide (1<=A.pa.length)&&(decide (A.pa.length<=2000)&&((A.la.length==A.pa.length)&&((A.fa.length==A.pa.length)&&((A.mu.length==A.pa.length)&&(A.bd.length==A.pa.length)))))
def sOkS (A:Au)(ws:List (List Int))(s:Nat):Bool:=s==0||(decide (-2<=iat A.mu s)&&(decide (iat A.mu s<4000)&&(iat A.fa s==lngW ws (wd ws s) 1 ((wd ws s).length+1-1))))
def validS (A:Au):Bool:=lensOk A&&((spellK A A.pa.length).2&&((iat A.fa 0==-1)&&((iat A.mu 0==-1)&&((!bat A.bd 0)&&allN A.pa.length (sOkS A (spellK A A.pa.length).1)))))
theorem sOk_one (A:Au)(ws:List (List Int)):allTo (sOkS A ws) 1:=λi hi=>by
 obtain rfl:i=0:=by omega
 rfl
theorem vs_len {A:Au}(h:lensOk A=false):false=validS A:=by simp[validS,h]
theorem specValidA_any (B:Nat)(v0 v1 v2 v3 v4:Value)(A:Au)(w:World)(h0:HA B w v0 v1 v2 v3 v4 A) :
  Calls Tryz.prog 9 #[.agg #[v0,v1,v2,v3,v4]] w λe w'=>e=.returned (.bool (validS A))/\Nx w w':=by
 have HH:Hid (HA B w v0 v1 v2 v3 v4 A):=h0
 obtain⟨⟨a0,c0,rfl,hn0,hk0⟩,⟨a1,c1,rfl,hn1,hk1⟩,⟨a2,c2,rfl,hn2,hk2⟩,⟨a3,c3,rfl,hn3,hk3⟩,⟨a4,c4,rfl,hn4,hk4⟩⟩:=h0
 unfold maxLen at hn0 hn1 hn2 hn3 hn4
 generalize hz0:A.pa.length=n0 at *
 have Z0:Hid (A.pa.length=n0):=hz0
 clear hz0
 generalize hz1:A.la.length=n1 at *
 have Z1:Hid (A.la.length=n1):=hz1
 clear hz1
 generalize hz2:A.fa.length=n2 at *
 have Z2:Hid (A.fa.length=n2):=hz2
 clear hz2
 generalize hz3:A.mu.length=n3 at *
 have Z3:Hid (A.mu.length=n3):=hz3
 clear hz3
 generalize hz4:A.bd.length=n4 at *
 have Z4:Hid (A.bd.length=n4):=hz4
 clear hz4
 by_cases e1:1<=n0
 case neg=>
  have d1:decide ((n0:Int)<1)=true:=by simp;omega
  have HF:Hid (false=validS A):=vs_len (by unfold lensOk;rw[Z0.out,Z1.out,Z2.out,Z3.out,Z4.out];simp;omega)
  go_enter Tryz.func9,Tryz.ntmps9
  go_wp2
  go_ret
  exact⟨ret_bool HF.out,box1 _ _⟩
 have d1:decide ((n0:Int)<1)=false:=by simp;omega
 by_cases e2:n0<=2000
 case neg=>
  have d2:decide (2000<(n0:Int))=true:=by simp;omega
  have HF:Hid (false=validS A):=vs_len (by unfold lensOk;rw[Z0.out,Z1.out,Z2.out,Z3.out,Z4.out];simp;omega)
  go_enter Tryz.func9,Tryz.ntmps9
  go_wp2
  go_ret
  exact⟨ret_bool HF.out,box1 _ _⟩
 have d2:decide (2000<(n0:Int))=false:=by simp;omega
 by_cases g1:n0=n1
 case neg=>
  have q1:((n1:Int) !=(n0:Int))=true:=by simp;omega
  have HF:Hid (false=validS A):=vs_len (by unfold lensOk;rw[Z0.out,Z1.out,Z2.out,Z3.out,Z4.out];simp;omega)
  go_enter Tryz.func9,Tryz.ntmps9
  go_wp2
  go_ret
  exact⟨ret_bool HF.out,box1 _ _⟩
 subst g1
 have q1:((n0:Int) !=(n0:Int))=false:=by simp
 by_cases g2:n0=n2
 case neg=>
  have q2:((n2:Int) !=(n0:Int))=true:=by simp;omega
  have HF:Hid (false=validS A):=vs_len (by unfold lensOk;rw[Z0.out,Z1.out,Z2.out,Z3.out,Z4.out];simp;omega)
  go_enter Tryz.func9,Tryz.ntmps9
  go_wp2
  go_ret
  exact⟨ret_bool HF.out,box1 _ _⟩
 subst g2
 have q2:((n0:Int) !=(n0:Int))=false:=by simp
 by_cases g3:n0=n3
 case neg=>
  have q3:((n3:Int) !=(n0:Int))=true:=by simp;omega
  have HF:Hid (false=validS A):=vs_len (by unfold lensOk;rw[Z0.out,Z1.out,Z2.out,Z3.out,Z4.out];simp;omega)
  go_enter Tryz.func9,Tryz.ntmps9
  go_wp2
  go_ret
  exact⟨ret_bool HF.out,box1 _ _⟩
 subst g3
 have q3:((n0:Int) !=(n0:Int))=false:=by simp
 by_cases g4:n0=n4
 case neg=>
  have q4:((n4:Int) !=(n0:Int))=true:=by simp;omega
  have HF:Hid (false=validS A):=vs_len (by unfold lensOk;rw[Z0.out,Z1.out,Z2.out,Z3.out,Z4.out];simp;omega)
  go_enter Tryz.func9,Tryz.ntmps9
  go_wp2
  go_ret
  exact⟨ret_bool HF.out,box1 _ _⟩
 subst g4
 have q4:((n0:Int) !=(n0:Int))=false:=by simp
 have HL:Hid (lensOk A=true):=by unfold Hid lensOk;rw[Z0.out,Z1.out,Z2.out,Z3.out,Z4.out];simp;omega
 have HVD:Hid (validS A=((spellK A n0).2&&((iat A.fa 0==-1)&&((iat A.mu 0==-1)&&((!bat A.bd 0)&&allN n0 (sOkS A (spellK A n0).1)))))):=by unfold Hid validS;rw[HL.out,Z0.out,Bool.true_and]
 go_enter Tryz.func9,Tryz.ntmps9
 go_wp2_with fail
 refine(l3Spell_any B _ _ _ _ _ A _ (by exact HH.out.next (box1 _ _)) (by rw[Z1.out,Z0.out]) (by rw[Z0.out];exact e2)).mono ?_
 rintro e w1 ⟨⟨vw,rfl,ho⟩,hx⟩
 rw[Z0.out] at ho
 have BA:=(Blk.new w #[.slice a0 n0 c0,.slice a1 n0 c1,.slice a2 n0 c2,.slice a3 n0 c3,.slice a4 n0 c4] 28 _ rfl).next hx
 have HX:Hid (Nx w w1):=(box1 _ _).trans hx
 obtain⟨aw,cw,hvw⟩:=ho.slice
 subst hvw
 have HOW:Hid (OwnW (w.heap.size+1) w1 (.slice aw (spellK A n0).1.length cw) (spellK A n0).1):=by unfold Hid;have:=ho;simpa using this
 have HBA:Hid (Blk w1 w.heap.size #[.slice a0 n0 c0,.slice a1 n0 c1,.slice a2 n0 c2,.slice a3 n0 c3,.slice a4 n0 c4]):=BA
 clear ho hx d1 d2 q1 q2 q3 q4
 have hcnt:=spell_cnt (A:=A) (s:=n0)
 have HSA:Hid (∀ws,spellK A n0=(ws,true)->AscW ws/\∀i,(wd ws i).length<=402):=λws h=>⟨spell_asc h,spell_len h⟩
 generalize hsp:spellK A n0=sp at *
 obtain⟨ws,ok⟩:=sp
 have HSP:Hid (spellK A n0=(ws,ok)):=hsp
 simp only at HOW HVD hcnt ⊢
 clear hsp
 cases ok
 ·have hwl:ws.length<n0:=hcnt.2 rfl
  generalize ws.length=nw0 at *
  have hwl':(nw0:Int)<n0:=by omega
  have HF:Hid (false=validS A):=by unfold Hid;rw[HVD.out];rfl
  go_wp2
  go_ret
  exact⟨ret_bool HF.out,HX.out⟩
 have hwl:ws.length=n0:=hcnt.1 rfl
 have HWL:Hid (ws.length=n0):=hwl
 rw[hwl] at HOW ⊢
 have HAS:Hid (AscW ws/\∀i,(wd ws i).length<=402):=HSA.out ws rfl
 clear hcnt HSA hwl
 obtain⟨b2,o2,ha2,_,hb2,hc2⟩:=hk2 (by omega)
 obtain⟨b3,o3,ha3,_,hb3,hc3⟩:=hk3 (by omega)
 obtain⟨b4,o4,ha4,_,hb4,hc4⟩:=hk4 (by omega)
 subst ha2 ha3 ha4
 have HC2:Hid (∀i,i<n0->w.cell? ⟨b2,o2+i,none⟩=some (.int .i64 (iat A.fa i))):=hc2
 have HC3:Hid (∀i,i<n0->w.cell? ⟨b3,o3+i,none⟩=some (.int .i64 (iat A.mu i))):=hc3
 have x2:=cell_next HX.out hb2 (HC2.out 0 (by omega))
 have x3:=cell_next HX.out hb3 (HC3.out 0 (by omega))
 have x4:=cell_next HX.out hb4 (hc4 0 (by omega))
 rw[Nat.add_zero] at x2 x3 x4
 have k2:=BA.cell (i:=2) rfl
 have k3:=BA.cell (i:=3) rfl
 have k4:=BA.cell (i:=4) rfl
 have hn00:(0:Int)<n0:=by omega
 clear hc2 hc3 hc4 hk0 hk1 hk2 hk3 hk4
 by_cases g1:iat A.fa 0=-1
 case neg=>
  have f1:(iat A.fa 0 !=-1)=true:=by simpa using g1
  have HF:Hid (false=validS A):=by unfold Hid;rw[HVD.out];simp[g1]
  clear g1
  go_wp2
  go_ret
  exact⟨ret_bool HF.out,HX.out⟩
 have f1:(iat A.fa 0 !=-1)=false:=by simpa using g1
 by_cases g2:iat A.mu 0=-1
 case neg=>
  have f2:(iat A.mu 0 !=-1)=true:=by simpa using g2
  have HF:Hid (false=validS A):=by unfold Hid;rw[HVD.out];simp[g2]
  clear g1 g2
  go_wp2
  go_ret
  exact⟨ret_bool HF.out,HX.out⟩
 have f2:(iat A.mu 0 !=-1)=false:=by simpa using g2
 cases g3:bat A.bd 0
 case true=>
  have HF:Hid (false=validS A):=by unfold Hid;rw[HVD.out];simp[g3]
  rw[g3] at x4
  clear g1 g2 g3
  go_wp2
  go_ret
  exact⟨ret_bool HF.out,HX.out⟩
 rw[g3] at x4
 have HVE:Hid (validS A=allN n0 (sOkS A ws)):=by unfold Hid;rw[HVD.out,g1,g2,g3];simp
 clear g1 g2 g3 HVD
 go_wp2
 clear x2 x3 x4 k2 k3 k4 f1 f2
 go_loopw [5] (λi wr=>∃k:Nat,1<=k/\k<=n0/\i=.int .i64 k/\Hid (allTo (sOkS A ws) k)/\Hid (Nx w1 wr)) (λi _=>n0-(intOf i).toNat)
 case atStart=>exact⟨1,Nat.le_refl _,e1,rfl,sOk_one A ws,Nx.refl _⟩
 obtain⟨k,hk1,hkn,rfl,HA',HN⟩:=hrel
 have HW:Hid (Nx w wr):=HX.out.trans HN.out
 by_cases hlt:k<n0
 ·have hlt':(k:Int)<n0:=by omega
  have BW:=HBA.out.next HN.out
  have x2:=cell_regrown (cell_next HW.out hb2 (HC2.out k hlt))
  have x3:=cell_regrown (cell_next HW.out hb3 (HC3.out k hlt))
  have k2:=cell_regrown (BW.cell (i:=2) rfl)
  have k3:=cell_regrown (BW.cell (i:=3) rfl)
  have HWO:Hid (OwnW (w.heap.size+1) wr (.slice aw n0 cw) ws):=HOW.out.next HN.out
  obtain⟨gw,ow,hav,hcw⟩:=HWO.out.held.at (by omega)
  subst hav
  obtain⟨vi,hv1,hv2,hv3⟩:=hcw k hlt
  have y0:=cell_regrown hv1
  have HOD:Hid (sOkS A ws k=(decide (-2<=iat A.mu k)&&(decide (iat A.mu k<4000)&&(iat A.fa k==lngW ws (wd ws k) 1 ((wd ws k).length+1-1))))):=by
   unfold Hid sOkS
   have:(k==0)=false:=by simp;omega
   rw[this,Bool.false_or]
  have CG:Hid (∀d os,Calls Tryz.prog 20 #[.slice (some ⟨gw,ow,none⟩) n0 cw,vi,.int .i64 1] (Sort.grow (redrawn wr d) os) λe w''=>e=.returned (.int .i64 (lngW ws (wd ws k) 1 ((wd ws k).length+1-1)))/\∃p:Regrown,w''=Sort.grow (redrawn wr p.d) p.os):=
   λd os=>Calls.regrown_of (l3Longest_any (w.heap.size+1) (w.heap.size+1) _ _ ws (wd ws k) 1 _ (HWO.out.held.next (below_regrown wr d os)) (hv2.next (below_regrown wr d os)) HAS.out.1 (by rw[HWL.out];omega) (by have:=HAS.out.2 k;omega) (by omega) hv3)
  have HFB:Hid (sOkS A ws k=false->false=validS A):=λh=>by rw[HVE.out,allN_no hlt h]
  clear hcw hv1 hv2 hv3 BW
  generalize lngW ws (wd ws k) 1 ((wd ws k).length+1-1)=lg at *
  by_cases g1:iat A.mu k < -2
  ·have f1:decide (iat A.mu k < -2)=true:=by simpa using g1
   have HF:Hid (false=validS A):=HFB.out (by rw[HOD.out];simp;omega)
   clear g1
   go_wp2
   refine wp_region_quiet_below (by kernel_rfl) (by kernel_rfl) ?_
   repeat (go_big_quiet_step (exact CG.out _ _))
   refine wpQuiet_nil ?_
   intro _ hw'
   obtain⟨⟨dq,osq⟩,hw''⟩:=hw'
   subst hw''
   have HB:Hid (Nx wr (Sort.grow (redrawn wr dq) osq)):=below_regrown wr dq osq
   go_wp2
   go_ret
   exact⟨ret_bool HF.out,HW.out.trans HB.out⟩
  have f1:decide (iat A.mu k < -2)=false:=by simpa using g1
  by_cases g2:4000<=iat A.mu k
  ·have f2:decide (4000<=iat A.mu k)=true:=by simpa using g2
   have HF:Hid (false=validS A):=HFB.out (by rw[HOD.out];simp;omega)
   clear g1 g2
   go_wp2
   refine wp_region_quiet_below (by kernel_rfl) (by kernel_rfl) ?_
   repeat (go_big_quiet_step (exact CG.out _ _))
   refine wpQuiet_nil ?_
   intro _ hw'
   obtain⟨⟨dq,osq⟩,hw''⟩:=hw'
   subst hw''
   have HB:Hid (Nx wr (Sort.grow (redrawn wr dq) osq)):=below_regrown wr dq osq
   go_wp2
   go_ret
   exact⟨ret_bool HF.out,HW.out.trans HB.out⟩
  have f2:decide (4000<=iat A.mu k)=false:=by simpa using g2
  by_cases g3:iat A.fa k=lg
  ·have f3:(iat A.fa k !=lg)=false:=by simpa using g3
   have HF:Hid (sOkS A ws k=true):=by unfold Hid;rw[HOD.out];simp;omega
   clear g1 g2 g3
   go_wp2
   refine wp_region_quiet_below (by kernel_rfl) (by kernel_rfl) ?_
   repeat (go_big_quiet_step (exact CG.out _ _))
   refine wpQuiet_nil ?_
   intro _ hw'
   obtain⟨⟨dq,osq⟩,hw''⟩:=hw'
   subst hw''
   have HB:Hid (Nx wr (Sort.grow (redrawn wr dq) osq)):=below_regrown wr dq osq
   go_wp2
   go_roundw
   case rel=>exact⟨k+1,by omega,by omega,by go_num,allTo_succ HA'.out HF.out,HN.out.trans HB.out⟩
   case measure=>simp[intOf];omega
  ·have f3:(iat A.fa k !=lg)=true:=by simpa using g3
   have HF:Hid (false=validS A):=HFB.out (by rw[HOD.out];simp;omega)
   clear g1 g2 g3
   go_wp2
   refine wp_region_quiet_below (by kernel_rfl) (by kernel_rfl) ?_
   repeat (go_big_quiet_step (exact CG.out _ _))
   refine wpQuiet_nil ?_
   intro _ hw'
   obtain⟨⟨dq,osq⟩,hw''⟩:=hw'
   subst hw''
   have HB:Hid (Nx wr (Sort.grow (redrawn wr dq) osq)):=below_regrown wr dq osq
   go_wp2
   go_ret
   exact⟨ret_bool HF.out,HW.out.trans HB.out⟩
 have ek:n0=k:=by omega
 subst ek
 have HF:Hid (true=validS A):=by unfold Hid;rw[HVE.out,allN_yes (Nat.le_refl _) HA'.out]
 clear HA' hlt hkn
 go_wp2
 go_ret
 exact⟨ret_bool HF.out,HW.out⟩
def lngE (ws:List (List Int))(s:Nat)(e:Int):Int:=lngW ws (wd ws s++[e]) 0 ((wd ws s++[e]).length+1-0)
def stepS (A:Au)(ws:List (List Int))(s e:Int):Int:=
 if s<0\/(ws.length:Int)<=s\/e<0\/4000<=e then -1
 else if bat A.bd s.toNat=true\/(iat A.mu s.toNat≠-1/\iat A.mu s.toNat≠e) then -1
 else if bat A.bd (lngE ws s.toNat e).toNat=true then -1 else lngE ws s.toNat e
structure WsOk (A:Au)(ws:List (List Int))(n:Nat):Prop where
 l:ws.length=n
 m:A.mu.length=n
 b:A.bd.length=n
 n:n<=2000
 asc:AscW ws
 len:∀i,(wd ws i).length<=402
 e:0<=stW ws []
theorem HInts.cellAt {B:Nat}{w w':World}{a:Option Addr}{n c:Nat}{xs:List Int}(h:HInts B w (.slice a n c) xs)(k:Nx w w'){i:Nat}(hi:i<n):∃b off,a=some ⟨b,off,none⟩/\w'.cell? ⟨b,off+i,none⟩=some (.int .i64 (iat xs i)):=by
 obtain⟨a',c',e,_,hk⟩:=h
 simp only[Value.slice.injEq] at e
 obtain⟨rfl,rfl,rfl⟩:=e
 obtain⟨b,off,ha,_,hb,hc⟩:=hk (by omega)
 exact⟨b,off,ha,cell_next k hb (hc i hi)⟩
def wsA (A:Au):List (List Int):=(spellK A A.pa.length).1
theorem spell_zero {A:Au}{s:Nat}{ws:List (List Int)}(h:spellK A (s+1)=(ws,true)):wd ws 0=[]:=by
 induction s generalizing ws with
 |zero=>
  rw[spellK] at h
  split at h
  ·obtain⟨rfl,_⟩:=Prod.mk.inj h
   rfl
  ·obtain⟨_,h2⟩:=Prod.mk.inj h
   simp at h2
 |succ s ih=>
  rw[spellK] at h
  split at h
  ·rename_i hc
   simp only[Bool.and_eq_true] at hc
   have h1:=ih (ws:=(spellK A (s+1)).1) (by rw[<-hc.1])
   have hl:=spell_cnt.1 hc.1
   obtain⟨rfl,_⟩:=Prod.mk.inj h
   rw[wd_snoc (by omega)]
   exact h1
  ·obtain⟨_,h2⟩:=Prod.mk.inj h
   simp at h2
theorem ws_of {A:Au}(h:validS A=true):WsOk A (wsA A) A.pa.length/\A.la.length=A.pa.length/\A.fa.length=A.pa.length/\1<=A.pa.length:=by
 unfold validS at h
 simp only[Bool.and_eq_true] at h
 obtain⟨h1,h2,h3,h4,h5,h6⟩:=h
 unfold lensOk at h1
 simp only[Bool.and_eq_true,decide_eq_true_eq,beq_iff_eq] at h1
 obtain⟨q1,q2,q3,q4,q5,q6⟩:=h1
 have hs:spellK A A.pa.length=(wsA A,true):=by rw[<-h2];rfl
 have hl:(wsA A).length=A.pa.length:=spell_cnt.1 h2
 obtain⟨m,hm⟩:∃m,A.pa.length=m+1:=⟨A.pa.length-1,by omega⟩
 have hz:wd (wsA A) 0=[]:=by rw[hm] at hs;exact spell_zero hs
 refine⟨⟨hl,q5,q6,q2,spell_asc hs,spell_len hs,?_⟩,q3,q4,q1⟩
 have:stW (wsA A) []=((0:Nat):Int):=findA_one (Nat.le_refl _) (by omega) (by rw[hz];rfl) (λb _ hb=>absurd hb (Nat.not_lt_zero _))
 rw[this]
 omega
theorem lngW_ge (ws:List (List Int))(x:List Int)(k f:Nat):-1<=lngW ws x k f:=by
 induction f generalizing k with
 |zero=>rw[lngW];omega
 |succ f ih=>
  rw[lngW]
  split
  ·omega
  ·exact ih _
theorem stepS_ge (A:Au)(ws:List (List Int))(s e:Int):-1<=stepS A ws s e:=by
 unfold stepS
 split
 ·omega
 ·split
  ·omega
  ·split
   ·omega
   ·exact lngW_ge _ _ _ _
def runK (A:Au)(ws:List (List Int))(P:List Int):Nat->Int
 |0=>0
 |k+1=>if runK A ws P k<0 then -1 else stepS A ws (runK A ws P k) (iat P k)
theorem runK_neg {A:Au}{ws:List (List Int)}{P:List Int}{k d:Nat}(h:runK A ws P (k+1)<0):runK A ws P (k+1+d)=-1:=by
 induction d with
 |zero=>
  have:-1<=runK A ws P (k+1):=by
   rw[runK]
   split
   ·omega
   ·exact stepS_ge _ _ _ _
  rw[Nat.add_zero]
  omega
 |succ d ih=>rw[<-Nat.add_assoc,runK,ih,if_pos (by omega)]
def runA (A:Au)(P:List Int):Int:=if validS A=true/\P.length<=10000 then runK A (wsA A) P P.length else -1
def RowToB (w:World)(g n k:Nat)(zs:List Bool):Prop:=∃f,w.rowIs g 4 n f/\∀i,i<k->f i=.bool (bat zs i)
theorem RowToB.set {w:World}{g n k:Nat}{zs:List Bool}(h:RowToB w g n k zs):RowToB (w.setCell ⟨g,k,none⟩ (.bool (bat zs k))) g n (k+1) zs:=by
 obtain⟨f,h1,h2⟩:=h
 refine⟨_,h1.set k _,λi hi=>?_⟩
 by_cases e:i=k
 ·subst e;simp
 ·simp[e];exact h2 i (by omega)
theorem RowToB.held {w:World}{g n:Nat}{zs:List Bool}(hn:zs.length=n)(hm:n<=maxLen)(h:RowToB w g n n zs):HBools g w (.slice (some ⟨g,0,none⟩) n n) zs:=by
 obtain⟨f,h1,h2⟩:=h
 subst hn
 refine⟨_,_,rfl,hm,λh0=>⟨g,0,rfl,Nat.le_refl _,h1.lt,λi hi=>?_⟩⟩
 show w.cell? ⟨g,0+i,none⟩=_
 rw[Nat.zero_add,h1.cell hi,h2 i hi]
theorem HBools.store {B:Nat}{w:World}{v:Value}{zs:List Bool}(h:HBools B w v zs){g o:Nat}(hg:g<B)(u:Value):HBools B (w.setCell ⟨g,o,none⟩ u) v zs:=h.keep (set_keeps _ _ hg _)
structure SmallA (A:Au):Prop where
 s0:A.pa.length<=1048576
 s1:A.la.length<=1048576
 s2:A.fa.length<=1048576
 s3:A.mu.length<=1048576
 s4:A.bd.length<=1048576
def wl (A:Au):Nat->List (List Int)
 |0=>[]
 |s+1=>wl A s++[if s=0 then [] else nw A (wl A s) s]
theorem wl_len (A:Au)(s:Nat):(wl A s).length=s:=by
 induction s with
 |zero=>rfl
 |succ s ih=>rw[wl,List.length_append,ih];rfl
def Wd (A:Au)(s:Nat):List Int:=if s=0 then [] else nw A (wl A s) s
theorem wl_wd {A:Au}{m s:Nat}(h:s<m):wd (wl A m) s=Wd A s:=by
 induction m with
 |zero=>omega
 |succ m ih=>
  rw[wl]
  by_cases e:s<m
  ·rw[wd_snoc (by rw[wl_len];exact e)]
   exact ih e
  ·have:s=m:=by omega
   subst this
   rw[wd_end (by rw[wl_len])]
   rfl
theorem Wd_zero (A:Au):Wd A 0=[]:=rfl
theorem okR_at {A:Au}{s:Nat}(h:okR A s=true):0<=iat A.pa s/\iat A.pa s<s/\0<=iat A.la s/\iat A.la s<4000:=by
 simp only[okR,Bool.and_eq_true,decide_eq_true_eq] at h
 omega
theorem Wd_step {A:Au}{s:Nat}(h:okR A s=true)(h0:1<=s):Wd A s=Wd A (iat A.pa s).toNat++[iat A.la s]:=by
 have:=okR_at h
 unfold Wd
 rw[if_neg (by omega)]
 unfold nw
 rw[wl_wd (by omega)]
 rfl
theorem spell_iff (A:Au)(s:Nat):(spellK A s).2=allN s (λt=>okS A (wl A t) t)/\((spellK A s).2=true->spellK A s=(wl A s,true)):=by
 induction s with
 |zero=>exact⟨rfl,λ_=>rfl⟩
 |succ s ih=>
  have ea:allN (s+1) (λt=>okS A (wl A t) t)=(allN s (λt=>okS A (wl A t) t)&&okS A (wl A s) s):=by
   unfold allN
   rw[List.range_succ,List.all_append]
   simp
  rw[ea,<-ih.1]
  cases hf:(spellK A s).2 with
  |false=>
   rw[spellK,hf]
   simp
  |true=>
   have hs:=ih.2 hf
   rw[spellK,hs]
   simp only[Bool.true_and]
   by_cases ho:okS A (wl A s) s=true
   ·rw[if_pos ho]
    exact⟨ho.symm,λ_=>rfl⟩
   ·rw[if_neg ho]
    exact⟨by simp at ho;rw[ho],λh=>by simp at h⟩
theorem lex_snoc {x y:List Int}(a b:Int)(h:x.length=y.length):lexB (x++[a]) (y++[b])=(lexB x y||(decide (x=y)&&decide (a<b))):=by
 induction x generalizing y with
 |nil=>
  match y,h with
  |[],_=>
   simp only[List.nil_append,lexB]
   by_cases e:a=b
   ·subst e;simp
   ·rw[if_neg e];simp
 |cons c x ih=>
  match y,h with
  |d::y,h=>
   simp only[List.cons_append,lexB]
   by_cases e:c=d
   ·subst e
    rw[if_pos rfl,if_pos rfl,ih (by simpa using h)]
    simp
   ·rw[if_neg e,if_neg e]
    simp[e]
theorem bef_snoc (x y:List Int)(a b:Int):befB (x++[a]) (y++[b])=(befB x y||(decide (x=y)&&decide (a<b))):=by
 unfold befB
 by_cases e:x.length=y.length
 ·rw[if_pos (by simp[e]),if_pos e]
  exact lex_snoc a b e
 ·have:x≠y:=λh=>e (by rw[h])
  rw[if_neg (by simp[e]),if_neg e]
  simp[this]
def pairAsc (A:Au)(s:Nat):Bool:=decide (iat A.pa (s-1)<iat A.pa s)||(decide (iat A.pa (s-1)=iat A.pa s)&&decide (iat A.la (s-1)<iat A.la s))
def AscTo (A:Au)(s:Nat):Prop:=∀i j,i<j->j<s->befB (Wd A i) (Wd A j)=true
theorem AscTo.ne {A:Au}{s i j:Nat}(h:AscTo A s)(hi:i<s)(hj:j<s):befB (Wd A i) (Wd A j)=decide (i<j)/\decide (Wd A i=Wd A j)=decide (i=j):=by
 rcases Nat.lt_trichotomy i j with e|rfl|e
 ·have hb:=h i j e hj
  refine⟨by rw[hb];simp[e],?_⟩
  have:Wd A i≠Wd A j:=λh'=>by rw[h',bef_self] at hb;simp at hb
  simp[this]
  omega
 ·exact⟨by rw[bef_self];simp,by simp⟩
 ·have hb:=h j i e hi
  refine⟨?_,?_⟩
  ·cases e2:befB (Wd A i) (Wd A j) with
   |false=>symm;simp;omega
   |true=>
    have:=bef_trans hb e2
    rw[bef_self] at this
    simp at this
  ·have:Wd A i≠Wd A j:=λh'=>by rw[h',bef_self] at hb;simp at hb
   simp[this]
   omega
theorem bef_pair {A:Au}{s:Nat}(hr:iat A.pa 0=-1)(ho:∀t,1<=t->t<=s->okR A t=true)(ha:AscTo A s)(hs:1<=s):befB (Wd A (s-1)) (Wd A s)=pairAsc A s:=by
 have h1:=okR_at (ho s hs (Nat.le_refl _))
 rw[Wd_step (ho s hs (Nat.le_refl _)) hs]
 by_cases e:s=1
 ·subst e
  have hp:iat A.pa 1=0:=by omega
  have:pairAsc A 1=true:=by
   unfold pairAsc
   simp only[Nat.sub_self]
   rw[hr,hp]
   rfl
  rw[this,Nat.sub_self,Wd_zero,hp]
  show befB [] ([]++[iat A.la 1])=true
  rfl
 ·have h2:=okR_at (ho (s-1) (by omega) (by omega))
  obtain⟨q1,q2⟩:=ha.ne (i:=(iat A.pa (s-1)).toNat) (j:=(iat A.pa s).toNat) (by omega) (by omega)
  rw[Wd_step (ho (s-1) (by omega) (by omega)) (by omega),bef_snoc,q1,q2]
  unfold pairAsc
  congr 1
  ·simp;omega
  ·congr 1
   simp
   omega
theorem asc_up {A:Au}{s:Nat}(ha:AscTo A s)(hb:1<=s->befB (Wd A (s-1)) (Wd A s)=true):AscTo A (s+1):=by
 intro i j hij hj
 by_cases e:j<s
 ·exact ha i j hij e
 ·have:j=s:=by omega
  subst this
  have h1:=hb (by omega)
  rcases Nat.lt_or_eq_of_le (show i<=j-1 by omega) with h2|h2
  ·exact bef_trans (ha i (j-1) h2 (by omega)) h1
  ·rw[h2];exact h1
def okI (A:Au)(s:Nat):Bool:=if s=0 then (iat A.pa 0==-1)&&(iat A.la 0==-1) else okR A s&&(decide ((Wd A s).length<=402)&&pairAsc A s)
theorem spell_okI {A:Au}(s:Nat):allN s (λt=>okS A (wl A t) t)=allN s (okI A)/\(allN s (okI A)=true->AscTo A s):=by
 induction s with
 |zero=>exact⟨rfl,λ_ i j h1 h2=>absurd h2 (Nat.not_lt_zero _)⟩
 |succ s ih=>
  have e1:∀p:Nat->Bool,allN (s+1) p=(allN s p&&p s):=λp=>by
   unfold allN
   rw[List.range_succ,List.all_append]
   simp
  rw[e1,e1,ih.1]
  cases hf:allN s (okI A) with
  |false=>exact⟨rfl,λh=>by simp at h⟩
  |true=>
   have hasc:=ih.2 hf
   simp only[Bool.true_and]
   have ho:∀t,1<=t->t<s->okR A t=true:=λt h1 h2=>by
    have:=List.all_eq_true.1 hf t (List.mem_range.2 h2)
    unfold okI at this
    rw[if_neg (by omega)] at this
    simp only[Bool.and_eq_true] at this
    exact this.1
   have key:okS A (wl A s) s=okI A s:=by
    unfold okS okI
    by_cases e:s=0
    ·rw[if_pos e,if_pos e]
    ·rw[if_neg e,if_neg e]
     unfold okW
     have eW:nw A (wl A s) s=Wd A s:=by unfold Wd;rw[if_neg e]
     rw[eW,wl_wd (by omega)]
     cases hr:okR A s with
     |false=>rfl
     |true=>
      have hz:iat A.pa 0=-1:=by
       have:=List.all_eq_true.1 hf 0 (List.mem_range.2 (by omega))
       unfold okI at this
       rw[if_pos rfl] at this
       simp only[Bool.and_eq_true,beq_iff_eq] at this
       exact this.1
      rw[bef_pair hz (λt h1 h2=>by rcases Nat.lt_or_eq_of_le h2 with h3|rfl;exact ho t h1 h3;exact hr) hasc (by omega)]
   refine⟨key,λh=>asc_up hasc λh1=>?_⟩
   rw[<-key] at h
   unfold okS okW at h
   rw[if_neg (by omega)] at h
   simp only[Bool.and_eq_true] at h
   have h3:=h.2.2
   rw[wl_wd (by omega)] at h3
   unfold Wd
   rw[if_neg (show ¬s=0 by omega)]
   exact h3
structure Trie (A:Au)(n:Nat):Prop where
 pos:1<=n
 ok:∀t,1<=t->t<n->okR A t=true
 asc:AscTo A n
theorem Trie.inj {A:Au}{n i j:Nat}(h:Trie A n)(hi:i<n)(hj:j<n)(e:Wd A i=Wd A j):i=j:=by
 have:=(h.asc.ne hi hj).2
 rw[decide_eq_true (by exact e)] at this
 simpa using this.symm
theorem st_word {A:Au}{n s:Nat}(h:Trie A n)(hs:s<n):stW (wl A n) (Wd A s)=s:=by
 unfold stW
 rw[wl_len]
 refine findA_one (Nat.zero_le _) (by omega) ?_ λb _ hb=>?_
 ·rw[wl_wd hs];simp
 ·rw[wl_wd (by omega),decide_eq_false_iff_not]
  intro e
  have:=h.inj (by omega) hs e
  omega
theorem st_some {A:Au}{n:Nat}{x:List Int}(h:0<=stW (wl A n) x):∃s,s<n/\Wd A s=x/\stW (wl A n) x=s:=by
 unfold stW at h ⊢
 rw[wl_len] at h ⊢
 obtain⟨a,e,_,ha,hf⟩:=findA_some h
 refine⟨a,by omega,?_,e⟩
 rw[wl_wd (by omega)] at hf
 simpa using hf
theorem Wd_ne {A:Au}{n s:Nat}(h:Trie A n)(h1:1<=s)(hs:s<n):Wd A s≠[]:=by
 rw[Wd_step (h.ok s h1 hs) h1]
 simp
def IsCh (A:Au)(n s:Nat)(e:Int)(t:Nat):Prop:=1<=t/\t<n/\iat A.pa t=s/\iat A.la t=e
theorem IsCh.word {A:Au}{n s t:Nat}{e:Int}(h:Trie A n)(hc:IsCh A n s e t):Wd A t=Wd A s++[e]:=by
 rw[Wd_step (h.ok t hc.1 hc.2.1) hc.1,hc.2.2.1,hc.2.2.2,Int.toNat_natCast]
theorem ch_of {A:Au}{n s:Nat}{e:Int}(h:Trie A n)(hs:s<n)(hp:0<=stW (wl A n) (Wd A s++[e])):∃t,IsCh A n s e t/\stW (wl A n) (Wd A s++[e])=t:=by
 obtain⟨t,ht,hw,hst⟩:=st_some hp
 have h1:1<=t:=by
  rcases Nat.eq_zero_or_pos t with e0|e0
  ·subst e0
   rw[Wd_zero] at hw
   simp at hw
  ·exact e0
 have ho:=okR_at (h.ok t h1 ht)
 rw[Wd_step (h.ok t h1 ht) h1] at hw
 obtain⟨h2,h3⟩:=List.append_inj' hw rfl
 have:=h.inj (i:=(iat A.pa t).toNat) (j:=s) (by omega) hs h2
 exact⟨t,⟨h1,ht,by omega,by simpa using h3⟩,hst⟩
theorem pre_word {A:Au}{n:Nat}{x:List Int}{e:Int}(h:Trie A n)(hp:0<=stW (wl A n) (x++[e])):0<=stW (wl A n) x:=by
 obtain⟨t,ht,hw,_⟩:=st_some hp
 have h1:1<=t:=by
  rcases Nat.eq_zero_or_pos t with e0|e0
  ·subst e0
   rw[Wd_zero] at hw
   simp at hw
  ·exact e0
 have ho:=okR_at (h.ok t h1 ht)
 rw[Wd_step (h.ok t h1 ht) h1] at hw
 obtain⟨h2,_⟩:=List.append_inj' hw rfl
 rw[<-h2,st_word h (by omega)]
 omega
def LW (ws:List (List Int))(x:List Int)(k:Nat):Int:=lngW ws x k (x.length+1-k)
theorem LW_hit {ws:List (List Int)}{x:List Int}{k:Nat}(hk:k<=x.length)(h:0<=stW ws (x.drop k)):LW ws x k=stW ws (x.drop k):=by
 unfold LW
 rw[show x.length+1-k=(x.length-k)+1 by omega,lngW,if_pos h]
theorem LW_skip {ws:List (List Int)}{x:List Int}{k:Nat}(hk:k<=x.length)(h:¬0<=stW ws (x.drop k)):LW ws x k=LW ws x (k+1):=by
 unfold LW
 rw[show x.length+1-k=(x.length+1-(k+1))+1 by omega,lngW,if_neg h]
theorem lng_drop {ws:List (List Int)}(x:List Int)(j k f:Nat):lngW ws (x.drop j) k f=lngW ws x (j+k) f:=by
 induction f generalizing k with
 |zero=>rw[lngW,lngW]
 |succ f ih=>rw[lngW,lngW,List.drop_drop,ih,Nat.add_assoc]
theorem LW_drop {ws:List (List Int)}{x:List Int}{j:Nat}(hj:j<=x.length):LW ws (x.drop j) 0=LW ws x j:=by
 unfold LW
 rw[lng_drop,List.length_drop,Nat.add_zero]
 congr 1
 omega
theorem st_nil {A:Au}{n:Nat}(h:Trie A n):stW (wl A n) []=((0:Nat):Int):=by
 have:=st_word h (s:=0) h.pos
 rwa [Wd_zero] at this
theorem LW_end {A:Au}{n:Nat}(h:Trie A n)(x:List Int):LW (wl A n) x x.length=0:=by
 rw[LW_hit (Nat.le_refl _) (by rw[List.drop_length,st_nil h];omega),List.drop_length,st_nil h]
 rfl
theorem LW_state {A:Au}{n:Nat}(h:Trie A n)(x:List Int){k:Nat}(hk:k<=x.length):∃v j,v<n/\LW (wl A n) x k=v/\k<=j/\j<=x.length/\Wd A v=x.drop j:=by
 generalize hd:x.length-k=d
 induction d generalizing k with
 |zero=>
  have:k=x.length:=by omega
  subst this
  exact⟨0,x.length,h.pos,LW_end h x,Nat.le_refl _,Nat.le_refl _,by rw[List.drop_length];rfl⟩
 |succ d ih=>
  by_cases hp:0<=stW (wl A n) (x.drop k)
  ·obtain⟨s,hs,hw,hst⟩:=st_some hp
   exact⟨s,k,hs,by rw[LW_hit hk hp,hst],Nat.le_refl _,hk,hw⟩
  ·obtain⟨v,j,h1,h2,h3,h4,h5⟩:=ih (k:=k+1) (by omega) (by omega)
   exact⟨v,j,h1,by rw[LW_skip hk hp,h2],by omega,h4,h5⟩
theorem LW_shift {A:Au}{n:Nat}(h:Trie A n)(x:List Int)(e:Int){k v:Nat}(hk:k<=x.length)(hv:LW (wl A n) x k=v):LW (wl A n) (x++[e]) k=LW (wl A n) (Wd A v++[e]) 0:=by
 generalize hd:x.length-k=d
 induction d generalizing k with
 |zero=>
  have:k=x.length:=by omega
  subst this
  have hv0:v=0:=by rw[LW_end h x] at hv;omega
  subst hv0
  have:(x++[e]).drop x.length=[e]:=by simp
  rw[<-LW_drop (x:=x++[e]) (by simp),this]
  rfl
 |succ d ih=>
  by_cases hp:0<=stW (wl A n) (x.drop k)
  ·obtain⟨s,hs,hw,hst⟩:=st_some hp
   rw[LW_hit hk hp,hst] at hv
   have:s=v:=by omega
   subst this
   have:(x++[e]).drop k=x.drop k++[e]:=by rw[List.drop_append_of_le_length hk]
   rw[<-LW_drop (x:=x++[e]) (by simp;omega),this,hw]
  ·have hn:¬0<=stW (wl A n) ((x++[e]).drop k):=λhq=>hp (by rw[List.drop_append_of_le_length hk] at hq;exact pre_word h hq)
   rw[LW_skip (by simp;omega) hn]
   rw[LW_skip hk hp] at hv
   exact ih (by omega) hv (by omega)
def failOf (A:Au)(n s:Nat):Nat:=(LW (wl A n) (Wd A s) 1).toNat
theorem fail_spec {A:Au}{n s:Nat}(h:Trie A n)(h1:1<=s)(hs:s<n):LW (wl A n) (Wd A s) 1=(failOf A n s:Int)/\failOf A n s<s:=by
 have hne:=Wd_ne h h1 hs
 have hl:1<=(Wd A s).length:=List.length_pos_iff.2 hne
 obtain⟨v,j,hv,e,hj,hj2,hw⟩:=LW_state h (Wd A s) (k:=1) hl
 have ev:failOf A n s=v:=by unfold failOf;rw[e,Int.toNat_natCast]
 rw[ev]
 refine⟨e,?_⟩
 have hlen:(Wd A v).length<(Wd A s).length:=by rw[hw,List.length_drop];omega
 have hb:befB (Wd A v) (Wd A s)=true:=by
  unfold befB
  rw[if_neg (by omega)]
  simpa using hlen
 rw[(h.asc.ne hv hs).1] at hb
 simpa using hb
def goOf (A:Au)(n s:Nat)(e:Int):Nat:=(LW (wl A n) (Wd A s++[e]) 0).toNat
theorem go_lw {A:Au}{n s:Nat}(h:Trie A n)(hs:s<n)(e:Int):LW (wl A n) (Wd A s++[e]) 0=(goOf A n s e:Int)/\goOf A n s e<n:=by
 obtain⟨v,j,hv,e1,_⟩:=LW_state h (Wd A s++[e]) (k:=0) (Nat.zero_le _)
 have:goOf A n s e=v:=by unfold goOf;rw[e1,Int.toNat_natCast]
 rw[this]
 exact⟨e1,hv⟩
theorem go_child {A:Au}{n s t:Nat}{e:Int}(h:Trie A n)(hs:s<n)(hc:IsCh A n s e t):goOf A n s e=t:=by
 have hw:=hc.word h
 have hst:=st_word h hc.2.1
 rw[hw] at hst
 unfold goOf
 rw[LW_hit (Nat.zero_le _) (by rw[List.drop_zero,hst];omega),List.drop_zero,hst,Int.toNat_natCast]
theorem no_child {A:Au}{n s:Nat}{e:Int}(h:Trie A n)(hs:s<n)(hc:∀t,¬IsCh A n s e t):¬0<=stW (wl A n) (Wd A s++[e]):=λhp=>by
 obtain⟨t,ht,_⟩:=ch_of h hs hp
 exact hc t ht
theorem go_root {A:Au}{n:Nat}{e:Int}(h:Trie A n)(hc:∀t,¬IsCh A n 0 e t):goOf A n 0 e=0:=by
 have hn:=no_child h h.pos hc
 unfold goOf
 rw[LW_skip (Nat.zero_le _) (by rw[List.drop_zero];exact hn)]
 have:(Wd A 0++[e]).length=1:=rfl
 have h2:=LW_end h (Wd A 0++[e])
 rw[this] at h2
 rw[h2]
 rfl
theorem go_fall {A:Au}{n s:Nat}{e:Int}(h:Trie A n)(h1:1<=s)(hs:s<n)(hc:∀t,¬IsCh A n s e t):goOf A n s e=goOf A n (failOf A n s) e:=by
 have hn:=no_child h hs hc
 have hl:1<=(Wd A s).length:=List.length_pos_iff.2 (Wd_ne h h1 hs)
 unfold goOf
 rw[LW_skip (Nat.zero_le _) (by rw[List.drop_zero];exact hn),LW_shift h (Wd A s) e hl (fail_spec h h1 hs).1]
theorem fail_child {A:Au}{n s t:Nat}{e:Int}(h:Trie A n)(hs:s<n)(hc:IsCh A n s e t):failOf A n t=if s=0 then 0 else goOf A n (failOf A n s) e:=by
 have hw:=hc.word h
 by_cases e0:s=0
 ·subst e0
  rw[if_pos rfl]
  unfold failOf
  rw[hw]
  have:(Wd A 0++[e]).length=1:=rfl
  have h2:=LW_end h (Wd A 0++[e])
  rw[this] at h2
  rw[h2]
  rfl
 ·rw[if_neg e0]
  have hl:1<=(Wd A s).length:=List.length_pos_iff.2 (Wd_ne h (by omega) hs)
  show(LW (wl A n) (Wd A t) 1).toNat=_
  rw[hw,LW_shift h (Wd A s) e hl (fail_spec h (by omega) hs).1]
  rfl
theorem trie_of {A:Au}{n:Nat}(hn:1<=n)(h:allN n (okI A)=true):Trie A n:=by
 refine⟨hn,λt h1 h2=>?_,(spell_okI n).2 h⟩
 have:=List.all_eq_true.1 h t (List.mem_range.2 h2)
 unfold okI at this
 rw[if_neg (by omega)] at this
 simp only[Bool.and_eq_true] at this
 exact this.1
def muI (A:Au)(s:Nat):Bool:=if s=0 then (iat A.mu 0==-1)&&!bat A.bd 0 else decide (-2<=iat A.mu s)&&decide (iat A.mu s<4000)
def faI (A:Au)(n s:Nat):Bool:=iat A.fa s==(if s=0 then -1 else (failOf A n s:Int))
def validI (A:Au):Bool:=lensOk A&&(allN A.pa.length (okI A)&&(allN A.pa.length (muI A)&&allN A.pa.length (faI A A.pa.length)))
theorem allN_split {n:Nat}{p:Nat->Bool}(hn:1<=n):allN n p=(p 0&&allN n (λs=>s==0||p s)):=by
 unfold allN
 rw[Bool.eq_iff_iff,Bool.and_eq_true,List.all_eq_true,List.all_eq_true]
 constructor
 ·intro h
  exact⟨h 0 (List.mem_range.2 hn),λs hs=>by rw[h s hs];simp⟩
 ·rintro⟨h0,h⟩ s hs
  by_cases e:s=0
  ·rw[e];exact h0
  ·have:=h s hs
   simpa [e] using this
theorem allN_congr {n:Nat}{p q:Nat->Bool}(h:∀s,s<n->p s=q s):allN n p=allN n q:=by
 unfold allN
 rw[Bool.eq_iff_iff,List.all_eq_true,List.all_eq_true]
 constructor
 ·intro k s hs;rw[<-h s (List.mem_range.1 hs)];exact k s hs
 ·intro k s hs;rw[h s (List.mem_range.1 hs)];exact k s hs
theorem valid_same (A:Au):validS A=validI A:=by
 unfold validS validI
 cases hl:lensOk A with
 |false=>rfl
 |true=>
  simp only[Bool.true_and]
  have hn:1<=A.pa.length:=by
   unfold lensOk at hl
   simp only[Bool.and_eq_true,decide_eq_true_eq] at hl
   exact hl.1
  obtain⟨s1,s2⟩:=spell_iff A A.pa.length
  rw[(spell_okI A.pa.length).1] at s1
  cases ho:allN A.pa.length (okI A) with
  |false=>rw[s1,ho];rfl
  |true=>
   rw[ho] at s1
   rw[s2 s1]
   simp only[Bool.true_and]
   have T:=trie_of hn ho
   rw[allN_split (p:=muI A) hn,allN_split (p:=faI A A.pa.length) hn]
   have e1:allN A.pa.length (sOkS A (wl A A.pa.length))=(allN A.pa.length (λs=>s==0||muI A s)&&allN A.pa.length (λs=>s==0||faI A A.pa.length s)):=by
    rw[<-allN_and]
    refine allN_congr λs hs=>?_
    unfold sOkS muI faI
    by_cases e:s=0
    ·subst e;rfl
    ·have e':(s==0)=false:=by simpa using e
     rw[e',if_neg e,if_neg e]
     simp only[Bool.false_or]
     have:lngW (wl A A.pa.length) (wd (wl A A.pa.length) s) 1 ((wd (wl A A.pa.length) s).length+1-1)=(failOf A A.pa.length s:Int):=by
      rw[wl_wd hs]
      exact(fail_spec T (by omega) hs).1
     rw[this,Bool.and_assoc]
   rw[e1]
   have m0:muI A 0=((iat A.mu 0==-1)&&!bat A.bd 0):=rfl
   have f0:faI A A.pa.length 0=(iat A.fa 0==-1):=rfl
   rw[m0,f0]
   cases (iat A.fa 0==-1)<;>cases (iat A.mu 0==-1)<;>cases bat A.bd 0<;>simp
theorem ws_same {A:Au}(h:validS A=true):wsA A=wl A A.pa.length/\Trie A A.pa.length:=by
 have h1:=h
 rw[valid_same] at h1
 unfold validI at h1
 simp only[Bool.and_eq_true] at h1
 have hn:1<=A.pa.length:=(ws_of h).2.2.2
 obtain⟨s1,s2⟩:=spell_iff A A.pa.length
 rw[(spell_okI A.pa.length).1,h1.2.1] at s1
 refine⟨?_,trie_of hn h1.2.1⟩
 unfold wsA
 rw[s2 s1]
theorem lngE_go {A:Au}(h:validS A=true){s:Nat}(hs:s<A.pa.length)(e:Int):lngE (wsA A) s e=(goOf A A.pa.length s e:Int):=by
 obtain⟨e1,T⟩:=ws_same h
 unfold lngE
 rw[e1,wl_wd hs]
 exact(go_lw T hs e).1
def stepI (A:Au)(s:Nat)(e:Int):Int:=
 if e<0\/4000<=e then -1
 else if bat A.bd s=true\/(iat A.mu s≠-1/\iat A.mu s≠e) then -1
 else if bat A.bd (goOf A A.pa.length s e)=true then -1 else (goOf A A.pa.length s e:Int)
theorem step_same {A:Au}(h:validS A=true){s:Nat}(hs:s<A.pa.length)(e:Int):stepS A (wsA A) (s:Int) e=stepI A s e:=by
 have hl:=(ws_of h).1.l
 unfold stepS stepI
 rw[hl]
 by_cases g:e<0\/4000<=e
 ·rw[if_pos g,if_pos (by omega)]
 ·rw[if_neg g,if_neg (by omega),Int.toNat_natCast,lngE_go h hs,Int.toNat_natCast]
def noE (e:Int):Bool:=decide (e<0\/4000<=e)
theorem noEdge_any (e:Int)(w:World):Calls Tryz.prog 42 #[.int .i64 e] w λr w'=>r=.returned (.bool (noE e))/\w'=w:=by
 by_cases h1:e<0
 ·have f1:decide (e<0)=true:=by simpa using h1
  have HF:Hid (true=noE e):=by unfold Hid noE;simp;omega
  go_enter Tryz.func42,Tryz.ntmps42
  go_wp2
  go_ret
  exact⟨ret_bool HF.out,rfl⟩
 ·have f1:decide (e<0)=false:=by simpa using h1
  by_cases h2:4000<=e
  ·have f2:decide (4000<=e)=true:=by simpa using h2
   have HF:Hid (true=noE e):=by unfold Hid noE;simp;omega
   go_enter Tryz.func42,Tryz.ntmps42
   go_wp2
   go_ret
   exact⟨ret_bool HF.out,rfl⟩
  ·have f2:decide (4000<=e)=false:=by simpa using h2
   have HF:Hid (false=noE e):=by unfold Hid noE;simp;omega
   go_enter Tryz.func42,Tryz.ntmps42
   go_wp2
   go_ret
   exact⟨ret_bool HF.out,rfl⟩
def muB (m:Int):Bool:=decide (-2<=m)&&decide (m<4000)
theorem validMust_any (m:Int)(w:World):Calls Tryz.prog 56 #[.int .i64 m] w λr w'=>r=.returned (.bool (muB m))/\w'=w:=by
 by_cases h1:m=-1
 ·have f1:(m==-1)=true:=by simpa using h1
  have HF:Hid (true=muB m):=by unfold Hid muB;simp;omega
  clear h1
  go_enter Tryz.func56,Tryz.ntmps56
  go_wp2
  go_ret
  exact⟨ret_bool HF.out,rfl⟩
 ·have f1:(m==-1)=false:=by simpa using h1
  by_cases h2:m=-2
  ·have f2:(m==-2)=true:=by simpa using h2
   have HF:Hid (true=muB m):=by unfold Hid muB;simp;omega
   clear h1 h2
   go_enter Tryz.func56,Tryz.ntmps56
   go_wp2
   go_ret
   exact⟨ret_bool HF.out,rfl⟩
  ·have f2:(m==-2)=false:=by simpa using h2
   have HF:Hid ((!noE m)=muB m):=by unfold Hid muB noE;rw[Bool.eq_iff_iff];simp;omega
   clear h1 h2
   go_enter Tryz.func56,Tryz.ntmps56
   go_wp2_with (go_at_call 42;refine(noEdge_any _ _).mono ?_;rintro e w' ⟨rfl,rfl⟩)
   go_ret
   exact⟨ret_bool HF.out,rfl⟩
def vlAt (A:Au)(s:Nat):Bool:=if s=0 then (iat A.pa 0==-1)&&((iat A.la 0==-1)&&((iat A.mu 0==-1)&&!bat A.bd 0)) else okR A s&&(muB (iat A.mu s)&&pairAsc A s)
def vlI (A:Au):Bool:=lensOk A&&allN A.pa.length (vlAt A)
theorem vl_len {A:Au}(h:lensOk A=false):false=vlI A:=by simp[vlI,h]
theorem or_asc (p q a b:Int):decide (0<=orI (cmpI p q) (cmpI a b))=!(decide (p<q)||(decide (p=q)&&decide (a<b))):=by
 unfold orI cmpI
 rw[Bool.eq_iff_iff]
 by_cases h1:p<q
 ·simp[h1]
 ·by_cases h2:q<p
  ·simp[h1,h2];omega
  ·have:p=q:=by omega
   subst this
   by_cases h3:a<b
   ·simp[h3]
   ·by_cases h4:b<a<;>simp[h3,h4]
theorem vl_valid (A:Au):validI A=(vlI A&&(allN A.pa.length (λs=>decide ((Wd A s).length<=402))&&allN A.pa.length (faI A A.pa.length))):=by
 unfold validI vlI
 cases hl:lensOk A with
 |false=>rfl
 |true=>
  have hn:1<=A.pa.length:=by
   unfold lensOk at hl
   simp only[Bool.and_eq_true,decide_eq_true_eq] at hl
   exact hl.1
  simp only[Bool.true_and]
  have e1:(allN A.pa.length (okI A)&&(allN A.pa.length (muI A)&&allN A.pa.length (faI A A.pa.length)))=allN A.pa.length (λs=>okI A s&&(muI A s&&faI A A.pa.length s)):=by rw[allN_and,allN_and]
  have e2:(allN A.pa.length (vlAt A)&&(allN A.pa.length (λs=>decide ((Wd A s).length<=402))&&allN A.pa.length (faI A A.pa.length)))=allN A.pa.length (λs=>vlAt A s&&(decide ((Wd A s).length<=402)&&faI A A.pa.length s)):=by rw[allN_and,allN_and]
  rw[e1,e2]
  refine allN_congr λs hs=>?_
  generalize faI A A.pa.length s=f
  unfold okI muI vlAt muB
  by_cases e:s=0
  ·subst e
   simp only[if_true,Wd_zero]
   cases (iat A.pa 0==-1)<;>cases (iat A.la 0==-1)<;>cases (iat A.mu 0==-1)<;>cases bat A.bd 0<;>cases f<;>rfl
  ·simp only[if_neg e]
   cases okR A s<;>cases decide ((Wd A s).length<=402)<;>cases pairAsc A s<;>cases decide (-2<=iat A.mu s)<;>cases decide (iat A.mu s<4000)<;>cases f<;>rfl
theorem cellq' {w w':World}(k:Nx w w'){b o:Nat}{v:Value}(h:w.cell? ⟨b,o,none⟩=some v):w'.cell? ⟨b,o,none⟩=some v:=cell_next k (cell_lt h) h
def ratA (rs:List Ru)(i:Nat):Ru:=rs.getD i ⟨0,false,[]⟩
def HRule (B:Nat)(w:World)(b o:Nat)(x:Ru):Prop:=
 ∃a c,w.cell? ⟨b,o,none⟩=some (.int .i64 x.rel)/\w.cell? ⟨b,o+1,none⟩=some (.bool x.only)/\w.cell? ⟨b,o+2,none⟩=some (.slice a x.seq.length c)/\HInts B w (.slice a x.seq.length c) x.seq/\x.seq.length<=c
def HRules (B:Nat)(w:World)(v:Value)(rs:List Ru):Prop:=HSlice B w v rs.length λb off i=>HRule B w b (off+i*3) (ratA rs i)
theorem HRule.keep {B:Nat}{w w':World}{b o:Nat}{x:Ru}(h:HRule B w b o x)(hb:B<=b)(hs:b<w.heap.size)(k:Keeps B w w'):HRule B w' b o x:=by
 obtain⟨a,c,h1,h2,h3,h4,h5⟩:=h
 exact⟨a,c,(k.2 b hb hs _).trans h1,(k.2 b hb hs _).trans h2,(k.2 b hb hs _).trans h3,h4.keep k,h5⟩
theorem HRules.keep {B:Nat}{w w':World}{v:Value}{rs:List Ru}(h:HRules B w v rs)(k:Keeps B w w'):HRules B w' v rs:=
 HSlice.mono h (Nat.le_refl _) k.1 λb off hb hs i hi hc=>hc.keep hb hs k
theorem HRules.next {B:Nat}{w w':World}{v:Value}{rs:List Ru}(h:HRules B w v rs)(k:Nx w w'):HRules B w' v rs:=h.keep (k.keeps B)
def edgeB (e:Int):Bool:=decide (0<=e)&&decide (e<4000)
def rgAt (x:Ru):Bool:=decide (2<=x.seq.length)&&(decide (x.seq.length<=402)&&allN x.seq.length (λj=>edgeB (iat x.seq j)))
def rgB (rs:List Ru):Bool:=decide (rs.length<=1000)&&allN rs.length (λi=>rgAt (ratA rs i))
theorem rg_len {rs:List Ru}(h:¬rs.length<=1000):false=rgB rs:=by simp[rgB,h]
theorem rg_no {rs:List Ru}{k n:Nat}(hn:rs.length=n)(hk:k<n)(h:rgAt (ratA rs k)=false):false=rgB rs:=by
 subst hn
 unfold rgB
 rw[allN_no (p:=λi=>rgAt (ratA rs i)) hk h];simp
theorem rg_yes {rs:List Ru}{k n:Nat}(hn:rs.length=n)(h1:n<=1000)(hk:n<=k)(h:allTo (λi=>rgAt (ratA rs i)) k):true=rgB rs:=by
 subst hn
 unfold rgB
 rw[allN_yes hk h];simp[h1]
theorem l3RulesGood_any (B:Nat)(v:Value)(rs:List Ru)(w:World)(h0:HRules B w v rs) :
  Calls Tryz.prog 17 #[v] w λe w'=>e=.returned (.bool (rgB rs))/\w'=w:=by
 obtain⟨a,cap,rfl,hn,hk⟩:=h0
 unfold maxLen at hn
 generalize hz:rs.length=n at *
 have HZ:Hid (rs.length=n):=hz
 clear hz
 by_cases e1:n<=1000
 case neg=>
  have d1:decide (1000<(n:Int))=true:=by simp;omega
  have HF:Hid (false=rgB rs):=rg_len (by rw[HZ.out];exact e1)
  go_enter Tryz.func17,Tryz.ntmps17
  go_wp2
  go_ret
  exact⟨ret_bool HF.out,rfl⟩
 have d1:decide (1000<(n:Int))=false:=by simp;omega
 go_enter Tryz.func17,Tryz.ntmps17
 go_wp2
 clear d1
 go_loop [3,4] (λi _=>∃k:Nat,k<=n/\i=.int .i64 k/\Hid (allTo (λi=>rgAt (ratA rs i)) k)) (λi _=>n-(intOf i).toNat)
 case atStart=>exact⟨0,Nat.zero_le _,rfl,allTo_zero _⟩
 obtain⟨k,hkn,rfl,HA⟩:=hrel
 by_cases hlt:k<n
 case neg=>
  have HF:Hid (true=rgB rs):=rg_yes HZ.out e1 (by omega) HA.out
  go_wp2
  go_ret
  exact⟨ret_bool HF.out,rfl⟩
 obtain⟨b,off,rfl,_,hb,hc⟩:=hk (by omega)
 obtain⟨sa,sc,c0,c1,c2,hS,hcap⟩:=hc k hlt
 have hlt':(k:Int)<n:=by omega
 clear c0 c1 hc hk
 generalize hx:ratA rs k=x at *
 have HX:Hid (ratA rs k=x):=hx
 clear hx
 obtain⟨sa',sc',e',hsn,hsk⟩:=hS
 simp only[Value.slice.injEq] at e'
 obtain⟨rfl,_,rfl⟩:=e'
 unfold maxLen at hsn
 have HRG:Hid (rgAt x=(decide (2<=x.seq.length)&&(decide (x.seq.length<=402)&&allN x.seq.length (λj=>edgeB (iat x.seq j))))):=rfl
 generalize hm:x.seq.length=m at *
 clear hm
 by_cases g1:2<=m
 case neg=>
  have f1:decide ((m:Int)<2)=true:=by simp;omega
  have HF:Hid (false=rgB rs):=rg_no HZ.out hlt (by rw[HX.out,HRG.out];simp[g1])
  go_wp2
  go_ret
  exact⟨ret_bool HF.out,rfl⟩
 have f1:decide ((m:Int)<2)=false:=by simp;omega
 by_cases g2:m<=402
 case neg=>
  have f2:decide (402<(m:Int))=true:=by simp;omega
  have HF:Hid (false=rgB rs):=rg_no HZ.out hlt (by rw[HX.out,HRG.out];simp[g2])
  go_wp2
  go_ret
  exact⟨ret_bool HF.out,rfl⟩
 have f2:decide (402<(m:Int))=false:=by simp;omega
 go_wp2
 clear f1 f2
 go_loop [4] (λi=>∃q:Nat,q<=m/\i=.int .i64 q/\Hid (allTo (λj=>edgeB (iat x.seq j)) q)) (λi=>m-(intOf i).toNat)
 case atStart=>exact⟨0,Nat.zero_le _,rfl,allTo_zero _⟩
 obtain⟨q,hqm,rfl,HQ⟩:=hrel
 by_cases hql:q<m
 case neg=>
  have HF:Hid (rgAt x=true):=by unfold Hid;rw[HRG.out,allN_yes (by omega) HQ.out];simp[g1,g2]
  go_wp2
  go_round
  case rel=>exact⟨k+1,by omega,by go_num,allTo_succ HA.out (by show rgAt (ratA rs k)=true;rw[HX.out];exact HF.out)⟩
  case measure=>simp[intOf];omega
 obtain⟨b',off',rfl,_,hb',hc'⟩:=hsk (by omega)
 have x0:=hc' q hql
 have hql':(q:Int)<m:=by omega
 clear hc' hsk
 by_cases g3:0<=iat x.seq q
 case neg=>
  have f3:decide (iat x.seq q<0)=true:=by simp;omega
  have HF:Hid (false=rgB rs):=rg_no HZ.out hlt (by rw[HX.out,HRG.out,allN_no hql (by simp[edgeB,g3])];simp)
  clear g3
  go_wp2
  go_ret
  exact⟨ret_bool HF.out,rfl⟩
 have f3:decide (iat x.seq q<0)=false:=by simp;omega
 by_cases g4:iat x.seq q<4000
 case neg=>
  have f4:decide (4000<=iat x.seq q)=true:=by simp;omega
  have HF:Hid (false=rgB rs):=rg_no HZ.out hlt (by rw[HX.out,HRG.out,allN_no hql (by simp[edgeB,g4])];simp)
  clear g3 g4
  go_wp2
  go_ret
  exact⟨ret_bool HF.out,rfl⟩
 have f4:decide (4000<=iat x.seq q)=false:=by simp;omega
 have HE:Hid (edgeB (iat x.seq q)=true):=by unfold Hid;simp[edgeB,g3,g4]
 clear g3 g4
 go_wp2
 go_round
 case rel=>exact⟨q+1,by omega,by go_num,allTo_succ HQ.out HE.out⟩
 case measure=>simp[intOf];omega
def sufB (q xs:List Int):Bool:=decide (q.length<=xs.length)&&allN q.length (λi=>iat xs (xs.length-q.length+i)==iat q i)
theorem l2Suffix_any (B B':Nat)(v v':Value)(xs q:List Int)(w:World)(h0:HInts B w v xs)(h1:HInts B' w v' q) :
  Calls Tryz.prog 38 #[v,.int .i64 xs.length,v'] w λe w'=>e=.returned (.bool (sufB q xs))/\Nx w w':=by
 have HSD:Hid (sufB q xs=(decide (q.length<=xs.length)&&allN q.length (λi=>iat xs (xs.length-q.length+i)==iat q i))):=rfl
 obtain⟨a,cap,rfl,hn,hk⟩:=h0
 obtain⟨a',cap',rfl,hn',hk'⟩:=h1
 unfold maxLen at hn hn'
 generalize xs.length=n at *
 generalize q.length=m at *
 by_cases e1:m<=n
 case neg=>
  have d1:decide ((n:Int)<m)=true:=by simp;omega
  have HF:Hid (false=sufB q xs):=by unfold Hid;rw[HSD.out];simp[e1]
  go_enter Tryz.func38,Tryz.ntmps38
  go_wp2
  go_ret
  exact⟨ret_bool HF.out,Nx.refl _⟩
 have d1:decide ((n:Int)<m)=false:=by simp;omega
 obtain⟨d,rfl⟩:∃d,n=m+d:=⟨n-m,by omega⟩
 have HS2:Hid (sufB q xs=allN m (λi=>iat xs (d+i)==iat q i)):=by
  unfold Hid
  rw[HSD.out,show m+d-m=d by omega]
  simp
 clear HSD d1
 have d1:decide ((m:Int)+d<m)=false:=by simp;omega
 go_enter Tryz.func38,Tryz.ntmps38
 go_wp2
 clear d1
 go_loopw [7] (λi wr=>∃k:Nat,k<=m/\i=.int .i64 k/\Hid (allTo (λi=>iat xs (d+i)==iat q i) k)/\Hid (Nx w wr)) (λi _=>m-(intOf i).toNat)
 case atStart=>exact⟨0,Nat.zero_le _,rfl,allTo_zero _,Nx.refl _⟩
 obtain⟨k,hkm,rfl,HA,HN⟩:=hrel
 by_cases hlt:k<m
 case neg=>
  have HF:Hid (true=sufB q xs):=by unfold Hid;rw[HS2.out,allN_yes (by omega) HA.out]
  go_wp2
  go_ret
  exact⟨ret_bool HF.out,HN.out⟩
 obtain⟨b,off,rfl,_,hb,hc⟩:=hk (by omega)
 obtain⟨b',off',rfl,_,hb',hc'⟩:=hk' (by omega)
 have x0:=cell_next HN.out hb (hc (d+k) (by omega))
 have y0:=cell_next HN.out hb' (hc' k hlt)
 have hlt':(k:Int)<m:=by omega
 have w1:IntKind.i64.wrap ((m:Int)+d-m)=(d:Int):=by rw[IntKind.wrap_i64];omega
 have w2:IntKind.i64.wrap ((d:Int)+k)=(d:Int)+k:=by rw[IntKind.wrap_i64];omega
 have hdk:(d:Int)+k<(m:Int)+d:=by omega
 clear hc hc' hk hk'
 cases g:(iat xs (d+k)==iat q k)
 case false=>
  have g':(iat xs (d+k) !=iat q k)=true:=by simpa using g
  have HF:Hid (false=sufB q xs):=by unfold Hid;rw[HS2.out,allN_no hlt g]
  clear g
  go_wp2
  go_quiet (fail)
  go_wp2
  go_ret
  exact⟨ret_bool HF.out,HN.out.trans ⟨rfl,rfl,rfl,Nat.le_refl _,λ_ _=>rfl⟩⟩
 case true=>
  have g':(iat xs (d+k) !=iat q k)=false:=by simpa using g
  have HG:Hid ((iat xs (d+k)==iat q k)=true):=g
  clear g
  go_wp2
  go_quiet (fail)
  go_wp2
  go_roundw
  case rel=>exact⟨k+1,by omega,by go_num,allTo_succ HA.out HG.out,HN.out.trans ⟨rfl,rfl,rfl,Nat.le_refl _,λ_ _=>rfl⟩⟩
  case measure=>simp[intOf];omega
def badAt (x:Ru)(xs:List Int):Bool:=!x.only&&sufB x.seq xs
def badS (rs:List Ru)(xs:List Int):Bool:=!allN rs.length (λi=>!badAt (ratA rs i) xs)
theorem bad_yes {rs:List Ru}{xs:List Int}{k n:Nat}(hn:rs.length=n)(hk:k<n)(h:badAt (ratA rs k) xs=true):true=badS rs xs:=by
 subst hn
 unfold badS
 rw[allN_no (p:=λi=>!badAt (ratA rs i) xs) hk (by simp[h])];rfl
theorem bad_no {rs:List Ru}{xs:List Int}{k n:Nat}(hn:rs.length=n)(hk:n<=k)(h:allTo (λi=>!badAt (ratA rs i) xs) k):false=badS rs xs:=by
 subst hn
 unfold badS
 rw[allN_yes hk h];rfl
theorem l3Bad_any (B B':Nat)(v v':Value)(rs:List Ru)(xs:List Int)(w:World)(h0:HRules B w v rs)(h1:HInts B' w v' xs) :
  Calls Tryz.prog 22 #[v,v'] w λe w'=>e=.returned (.bool (badS rs xs))/\Nx w w':=by
 have HX:Hid (HInts B' w v' xs):=h1
 obtain⟨a,cap,rfl,hn,hk⟩:=h0
 obtain⟨a',cap',rfl,hn',_⟩:=h1
 unfold maxLen at hn hn'
 generalize hz:rs.length=n at *
 have HZ:Hid (rs.length=n):=hz
 clear hz
 go_enter Tryz.func22,Tryz.ntmps22
 go_wp2
 go_loopw [5] (λi wr=>∃k:Nat,k<=n/\i=.int .i64 k/\Hid (allTo (λi=>!badAt (ratA rs i) xs) k)/\Hid (Nx w wr)) (λi _=>n-(intOf i).toNat)
 case atStart=>exact⟨0,Nat.zero_le _,rfl,allTo_zero _,Nx.refl _⟩
 obtain⟨k,hkm,rfl,HA,HN⟩:=hrel
 by_cases hlt:k<n
 case neg=>
  have HF:Hid (false=badS rs xs):=bad_no HZ.out (by omega) HA.out
  go_wp2
  go_ret
  exact⟨ret_bool HF.out,HN.out⟩
 obtain⟨b,off,rfl,_,hb,hc⟩:=hk (by omega)
 obtain⟨sa,sc,c0,c1,c2,hS,hcap⟩:=hc k hlt
 have c1:=cell_next HN.out hb c1
 have c2:=cell_next HN.out hb c2
 have hlt':(k:Int)<n:=by omega
 have HS:Hid (HInts B w (.slice sa (ratA rs k).seq.length sc) (ratA rs k).seq):=hS
 have HBD:Hid (badAt (ratA rs k) xs=(!(ratA rs k).only&&sufB (ratA rs k).seq xs)):=rfl
 clear hc hk c0 hS
 cases g1:(ratA rs k).only
 case true=>
  have HF:Hid ((!badAt (ratA rs k) xs)=true):=by unfold Hid;rw[HBD.out,g1];rfl
  rw[g1] at c1
  clear g1
  go_wp2
  go_roundw
  case rel=>exact⟨k+1,by omega,by go_num,allTo_succ HA.out HF.out,HN⟩
  case measure=>simp[intOf];omega
 rw[g1] at c1 HBD
 clear g1
 go_wp2_with fail
 refine(l2Suffix_any B' B _ _ xs (ratA rs k).seq _ (by exact HX.out.next HN.out) (by exact HS.out.next HN.out)).mono ?_
 rintro e w1 ⟨rfl,hx⟩
 have HN1:Hid (Nx w w1):=HN.out.trans hx
 clear hx c1 c2
 cases g2:sufB (ratA rs k).seq xs
 case true=>
  have HF:Hid (true=badS rs xs):=bad_yes HZ.out hlt (by rw[HBD.out,g2];rfl)
  clear g2
  go_wp2
  go_ret
  exact⟨ret_bool HF.out,HN1.out⟩
 case false=>
  have HF:Hid ((!badAt (ratA rs k) xs)=true):=by unfold Hid;rw[HBD.out,g2];rfl
  clear g2
  go_wp2
  go_roundw
  case rel=>exact⟨k+1,by omega,by go_num,allTo_succ HA.out HF.out,HN1⟩
  case measure=>simp[intOf];omega
theorem iat_take {zs:List Int}{k i:Nat}(h:i<k):iat (zs.take k) i=iat zs i:=by
 simp[iat,List.getD,List.getElem?_take_of_lt h]
theorem HInts.take {B:Nat}{w:World}{a:Option Addr}{n c:Nat}{zs:List Int}(h:HInts B w (.slice a n c) zs){k:Nat}(hk:k<=n)(c':Nat):HInts B w (.slice a k c') (zs.take k):=by
 obtain⟨a0,c0,e,hn,hk'⟩:=h
 simp only[Value.slice.injEq] at e
 obtain⟨rfl,rfl,rfl⟩:=e
 have hl:(zs.take k).length=k:=by rw[List.length_take];omega
 refine⟨_,c',by rw[hl],by rw[hl];omega,λh0=>?_⟩
 rw[hl] at h0
 obtain⟨b,off,rfl,hB,hb,hc⟩:=hk' (by omega)
 refine⟨b,off,rfl,hB,hb,λi hi=>?_⟩
 rw[hl] at hi
 show w.cell? _=_
 rw[iat_take hi]
 exact hc i (by omega)
def joinM (m l:Int):Int:=if m=-1\/m=l then l else -2
def mustAt (x:Ru)(xs:List Int):Bool:=x.only&&sufB (x.seq.take (x.seq.length-1)) xs
def mustTo (rs:List Ru)(xs:List Int):Nat->Int
 |0=>-1
 |k+1=>if mustAt (ratA rs k) xs=true then joinM (mustTo rs xs k) (iat (ratA rs k).seq ((ratA rs k).seq.length-1)) else mustTo rs xs k
def mustS (rs:List Ru)(xs:List Int):Int:=mustTo rs xs rs.length
theorem l3Must_any (B B':Nat)(v v':Value)(rs:List Ru)(xs:List Int)(w:World)(h0:HRules B w v rs)(h1:HInts B' w v' xs)(hg:∀i,i<rs.length->2<=(ratA rs i).seq.length) :
  Calls Tryz.prog 21 #[v,v'] w λe w'=>e=.returned (.int .i64 (mustS rs xs))/\Nx w w':=by
 have HX:Hid (HInts B' w v' xs):=h1
 have HGD:Hid (∀i,i<rs.length->2<=(ratA rs i).seq.length):=hg
 clear hg
 obtain⟨a,cap,rfl,hn,hk⟩:=h0
 obtain⟨a',cap',rfl,hn',_⟩:=h1
 unfold maxLen at hn hn'
 generalize hz:rs.length=n at *
 have HZ:Hid (rs.length=n):=hz
 clear hz
 go_enter Tryz.func21,Tryz.ntmps21
 go_wp2
 go_loopw [5,6,7,8] (λm i _ _ wr=>∃k:Nat,k<=n/\i=.int .i64 k/\m=.int .i64 (mustTo rs xs k)/\Hid (Nx w wr)) (λ_ i _ _ _=>n-(intOf i).toNat)
 case atStart=>exact⟨0,Nat.zero_le _,rfl,rfl,Nx.refl _⟩
 obtain⟨k,hkm,rfl,rfl,HN⟩:=hrel
 by_cases hlt:k<n
 case neg=>
  have ek:n=k:=by omega
  subst ek
  have HF:Hid (mustTo rs xs n=mustS rs xs):=by unfold Hid mustS;rw[HZ.out]
  clear hlt
  go_wp2
  go_ret
  exact⟨ret_int HF.out,HN.out⟩
 obtain⟨b,off,rfl,_,hb,hc⟩:=hk (by omega)
 obtain⟨sa,sc,c0,c1,c2,hS,hcap⟩:=hc k hlt
 have c1:=cell_next HN.out hb c1
 have c2:=cell_next HN.out hb c2
 have hlt':(k:Int)<n:=by omega
 have h2:=HGD.out k hlt
 have HS:Hid (HInts B w (.slice sa (ratA rs k).seq.length sc) (ratA rs k).seq):=hS
 have HMT:Hid (mustTo rs xs (k+1)=if mustAt (ratA rs k) xs=true then joinM (mustTo rs xs k) (iat (ratA rs k).seq ((ratA rs k).seq.length-1)) else mustTo rs xs k):=rfl
 have HMA:Hid (mustAt (ratA rs k) xs=((ratA rs k).only&&sufB ((ratA rs k).seq.take ((ratA rs k).seq.length-1)) xs)):=rfl
 obtain⟨sa',sc',e',hsn,hsk⟩:=hS
 simp only[Value.slice.injEq] at e'
 obtain⟨rfl,_,rfl⟩:=e'
 unfold maxLen at hsn
 generalize ratA rs k=x at *
 generalize hq:x.seq.length=q at *
 clear hq
 obtain⟨p,rfl⟩:∃p,q=p+1:=⟨q-1,by omega⟩
 rw[Nat.add_sub_cancel] at HMT HMA
 obtain⟨b',off',rfl,_,hb',hc'⟩:=hsk (by omega)
 have z0:=cell_next HN.out hb' (hc' p (by omega))
 have w1:IntKind.i64.wrap ((p:Int)+1-1)=(p:Int):=by rw[IntKind.wrap_i64];omega
 have w2:((p:Int)+1-1)=(p:Int):=by omega
 have hp1:(p:Int)<(p:Int)+1:=by omega
 have hp2:(p:Int)<=sc:=by omega
 have wp:=wrapJ p (by omega)
 clear hc hk c0 hc' hsk
 generalize iat x.seq p=l at *
 generalize mustTo rs xs k=m at *
 cases g1:x.only
 case false=>
  have HF:Hid (mustTo rs xs (k+1)=m):=by unfold Hid;rw[HMT.out,HMA.out,g1];rfl
  rw[g1] at c1
  clear g1
  go_wp2
  go_roundw
  case rel=>exact⟨k+1,by omega,by go_num,by rw[HF.out],HN⟩
  case measure=>simp[intOf];omega
 rw[g1] at c1 HMA
 clear g1
 go_wp2_with fail
 refine(l2Suffix_any B' B _ _ xs (x.seq.take p) _ (by exact HX.out.next HN.out) (by exact(HS.out.take (Nat.le_succ _) _).next HN.out)).mono ?_
 rintro e w1 ⟨rfl,hx⟩
 have HN1:Hid (Nx w w1):=HN.out.trans hx
 have c2:=cellq' hx c2
 have z0:=cellq' hx z0
 clear hx c1
 cases g2:sufB (x.seq.take p) xs
 case false=>
  have HF:Hid (mustTo rs xs (k+1)=m):=by unfold Hid;rw[HMT.out,HMA.out,g2];rfl
  clear g2
  go_wp2
  go_roundw
  case rel=>exact⟨k+1,by omega,by go_num,by rw[HF.out],HN1⟩
  case measure=>simp[intOf];omega
 have HF:Hid (mustTo rs xs (k+1)=joinM m l):=by unfold Hid;rw[HMT.out,HMA.out,g2];rfl
 have HJ:Hid (joinM m l=if m=-1\/m=l then l else -2):=rfl
 clear g2 HMT HMA
 by_cases g3:m=-1
 ·have f3:(m==-1)=true:=by simpa using g3
  have HF2:Hid (mustTo rs xs (k+1)=l):=by unfold Hid;rw[HF.out,HJ.out,if_pos (Or.inl g3)]
  clear g3
  go_wp2
  go_roundw
  case rel=>exact⟨k+1,by omega,by go_num,by rw[HF2.out],HN1⟩
  case measure=>simp[intOf];omega
 have f3:(m==-1)=false:=by simpa using g3
 by_cases g4:m=l
 ·have f4:(m==l)=true:=by simpa using g4
  have HF2:Hid (mustTo rs xs (k+1)=l):=by unfold Hid;rw[HF.out,HJ.out,if_pos (Or.inr g4)]
  clear g3 g4
  go_wp2
  go_roundw
  case rel=>exact⟨k+1,by omega,by go_num,by rw[HF2.out],HN1⟩
  case measure=>simp[intOf];omega
 ·have f4:(m==l)=false:=by simpa using g4
  have HF2:Hid (mustTo rs xs (k+1)=-2):=by unfold Hid;rw[HF.out,HJ.out,if_neg (by rintro(h|h);exact g3 h;exact g4 h)]
  clear g3 g4
  go_wp2
  go_roundw
  case rel=>exact⟨k+1,by omega,by go_num,by rw[HF2.out],HN1⟩
  case measure=>simp[intOf];omega
end Go.Proofs.YtdpfdkihbgmapaaGreat
