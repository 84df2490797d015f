import Derived.Test.YtdpfdkihbgmapaaLB
namespace Go.Proofs.Ytdpfdkihbgmapaa
open Go.RowKit
set_option linter.unusedVariables false
set_option maxRecDepth 1000000
set_option maxHeartbeats 16000000
theorem lex_trans {x y z:List Int}(h1:lexB x y=true)(h2:lexB y z=true):lexB x z=true:=by
 induction x generalizing y z with
 |nil=>simp[lexB] at h1
 |cons a x ih=>
  match y,z with
  |[],_=>simp[lexB] at h1
  |_::_,[]=>simp[lexB] at h2
  |b::y,c::z=>
   simp only[lexB] at h1 h2 ⊢
   by_cases e1:a=b
   ·rw[if_pos e1] at h1
    by_cases e2:b=c
    ·rw[if_pos e2] at h2
     rw[if_pos (by omega)]
     exact ih h1 h2
    ·rw[if_neg e2] at h2
     rw[if_neg (by omega)]
     simp at h2 ⊢
     omega
   ·rw[if_neg e1] at h1
    by_cases e2:b=c
    ·rw[if_neg (by omega)]
     simp at h1 ⊢
     omega
    ·rw[if_neg e2] at h2
     simp at h1 h2
     rw[if_neg (by omega)]
     simp
     omega
theorem bef_trans {x y z:List Int}(h1:befB x y=true)(h2:befB y z=true):befB x z=true:=by
 unfold befB at *
 by_cases e1:x.length=y.length
 ·rw[if_pos e1] at h1
  by_cases e2:y.length=z.length
  ·rw[if_pos e2] at h2
   rw[if_pos (by omega)]
   exact lex_trans h1 h2
  ·rw[if_neg e2] at h2
   rw[if_neg (by omega)]
   simp at h2 ⊢
   omega
 ·rw[if_neg e1] at h1
  by_cases e2:y.length=z.length
  ·rw[if_neg (by omega)]
   simp at h1 ⊢
   omega
  ·rw[if_neg e2] at h2
   simp at h1 h2
   rw[if_neg (by omega)]
   simp
   omega
theorem bef_self (x:List Int):befB x x=false:=by unfold befB;rw[if_pos rfl,lex_self]
def AscW (ws:List (List Int)):Prop:=∀i j,i<j->j<ws.length->befB (wd ws i) (wd ws j)=true
def findA (f:Nat->Bool):Nat->Nat->Int
 |_,0=>-1
 |k,n+1=>if f k then (k:Int) else findA f (k+1) n
theorem findA_some {f:Nat->Bool}{k n:Nat}(h:0<=findA f k n):∃a:Nat,findA f k n=a/\k<=a/\a<k+n/\f a=true:=by
 induction n generalizing k with
 |zero=>simp[findA] at h
 |succ n ih=>
  unfold findA at h ⊢
  by_cases e:f k=true
  ·rw[if_pos e];exact⟨k,rfl,Nat.le_refl _,by omega,e⟩
  ·rw[if_neg e] at h ⊢
   obtain⟨a,h1,h2,h3,h4⟩:=ih h
   exact⟨a,h1,by omega,by omega,h4⟩
theorem findA_none {f:Nat->Bool}{k n:Nat}(h:∀a,k<=a->a<k+n->f a=false):findA f k n=-1:=by
 induction n generalizing k with
 |zero=>rfl
 |succ n ih=>
  unfold findA
  rw[if_neg (by rw[h k (Nat.le_refl _) (by omega)];simp)]
  exact ih λa h1 h2=>h a (by omega) (by omega)
theorem findA_one {f:Nat->Bool}{k n a:Nat}(h1:k<=a)(h2:a<k+n)(ha:f a=true)(hu:∀b,k<=b->b<a->f b=false):findA f k n=a:=by
 induction n generalizing k with
 |zero=>omega
 |succ n ih=>
  unfold findA
  by_cases e:k=a
  ·subst e;rw[if_pos ha]
  ·rw[if_neg (by rw[hu k (Nat.le_refl _) (by omega)];simp)]
   exact ih (by omega) (by omega) λb hb hb'=>hu b (by omega) hb'
def stW (ws:List (List Int))(x:List Int):Int:=findA (λi=>decide (wd ws i=x)) 0 ws.length
def PlaceW (ws:List (List Int))(x:List Int)(lo hi:Nat):Prop:=(∀i,i<lo->befB (wd ws i) x=true)/\∀i,hi<=i->i<ws.length->befB (wd ws i) x=false
theorem place_up {ws:List (List Int)}{x:List Int}{lo hi m:Nat}(ha:AscW ws)(h:PlaceW ws x lo hi)(hm:m<ws.length)(hb:befB (wd ws m) x=true):PlaceW ws x (m+1) hi:=
 ⟨λi hi=>by
  rcases Nat.lt_succ_iff_lt_or_eq.1 hi with h1|rfl
  ·exact bef_trans (ha i m h1 hm) hb
  ·exact hb,h.2⟩
theorem place_down {ws:List (List Int)}{x:List Int}{lo hi m:Nat}(ha:AscW ws)(h:PlaceW ws x lo hi)(hb:befB (wd ws m) x=false):PlaceW ws x lo m:=
 ⟨h.1,λi h1 h2=>by
  rcases Nat.lt_or_eq_of_le h1 with h3|rfl
  ·cases e:befB (wd ws i) x with
   |false=>rfl
   |true=>rw[bef_trans (ha m i h3 h2) e] at hb;simp at hb
  ·exact hb⟩
theorem place_yes {ws:List (List Int)}{x:List Int}{lo:Nat}(h:PlaceW ws x lo lo)(hl:lo<ws.length)(e:wd ws lo=x):(lo:Int)=stW ws x:=by
 symm
 refine findA_one (Nat.zero_le _) (by omega) (by simpa using e) λb _ hb=>?_
 rw[decide_eq_false_iff_not]
 intro e'
 have:=h.1 b hb
 rw[e',bef_self] at this
 simp at this
theorem place_no {ws:List (List Int)}{x:List Int}{lo:Nat}(ha:AscW ws)(h:PlaceW ws x lo lo)(e:lo<ws.length->wd ws lo≠x):-1=stW ws x:=by
 symm
 refine findA_none λa _ hl=>?_
 rw[decide_eq_false_iff_not]
 intro e'
 rcases Nat.lt_trichotomy a lo with h1|rfl|h1
 ·have:=h.1 a h1
  rw[e',bef_self] at this
  simp at this
 ·exact e (by omega) e'
 ·have h2:=ha lo a h1 (by omega)
  rw[e'] at h2
  have:=h.2 lo (Nat.le_refl _) (by omega)
  rw[h2] at this
  simp at this
theorem halveA (lo hi:Nat)(h:lo<hi)(hb:hi<=4611686018427387903):∃m:Nat,((lo:Int)+hi).tdiv 2=(m:Int)/\lo<=m/\m<hi:=by
 refine⟨(lo+hi)/2,?_,by omega,by omega⟩
 rw[Int.tdiv_eq_ediv_of_nonneg (by omega)]
 omega
theorem l3Place_any (B B':Nat)(v v':Value)(ws:List (List Int))(xs:List Int)(w:World)(h0:HWords B w v ws)(h1:HInts B' w v' xs)(ha:AscW ws)(hl:ws.length<=1048576) :
  Calls Try.prog 43 #[v,v'] w λe w'=>(∃lo:Nat,e=.returned (.int .i64 lo)/\lo<=ws.length/\PlaceW ws xs lo lo)/\Nx w w':=by
 have HH:Hid (HWords B w v ws):=h0
 have HX:Hid (HInts B' w v' xs):=h1
 have HA:Hid (AscW ws):=ha
 obtain⟨a,cap,rfl,hn,hk⟩:=h0
 clear h1 ha
 generalize hz:ws.length=n at *
 have HZ:Hid (ws.length=n):=hz
 clear hz
 go_enter Try.func43,Try.ntmps43
 go_wp2
 go_loopw [5,6,7] (λs5 s6 s7 wr=>∃lo hi:Nat,lo<=hi/\hi<=n/\s5=.int .i64 lo/\s6=.int .i64 hi/\Hid (PlaceW ws xs lo hi)/\Hid (Nx w wr)) (λs5 s6 _ _=>(intOf s6).toNat-(intOf s5).toNat)
 case atStart=>exact⟨0,n,Nat.zero_le _,Nat.le_refl _,rfl,rfl,⟨λi hi=>absurd hi (Nat.not_lt_zero _),λi h1 h2=>by rw[HZ.out] at h2;omega⟩,Nx.refl _⟩
 obtain⟨lo,hi,hlh,hhn,rfl,rfl,HP,HN⟩:=hrel
 by_cases hlt:lo<hi
 ·obtain⟨m,hm,hm1,hm2⟩:=halveA lo hi hlt (by omega)
  have hlt':(lo:Int)<hi:=by omega
  have hmn:(m:Int)<n:=by omega
  obtain⟨b,off,rfl,hB,hb,hc⟩:=hk (by omega)
  obtain⟨vi,hv1,hv2,_⟩:=hc m (by omega)
  have c0:=cell_next HN.out hb hv1
  have HVI:Hid (HInts B wr vi (wd ws m)):=hv2.next HN.out
  have hwm:IntKind.i64.wrap ((lo:Int)+hi)=(lo:Int)+hi:=by rw[IntKind.wrap_i64];omega
  clear hc hk hv1 hv2
  go_wp2_with fail
  refine(l3Before_any B B' _ _ _ xs _ HVI.out (HX.out.next HN.out)).mono ?_
  rintro e w1 ⟨rfl,hx⟩
  have HN1:Hid (Nx w w1):=HN.out.trans hx
  clear hx HN c0
  cases hbf:befB (wd ws m) xs
  ·have HP':Hid (PlaceW ws xs lo m):=place_down HA.out HP.out hbf
   clear hbf
   go_wp2
   go_roundw
   case rel=>exact⟨lo,m,hm1,by omega,rfl,rfl,HP',HN1⟩
   case measure=>simp[intOf];omega
  ·have HP':Hid (PlaceW ws xs (m+1) hi):=place_up HA.out HP.out (by rw[HZ.out];omega) hbf
   clear hbf
   go_wp2
   go_roundw
   case rel=>exact⟨m+1,hi,by omega,hhn,by go_num,rfl,HP',HN1⟩
   case measure=>simp[intOf];omega
 have ek:lo=hi:=by omega
 subst ek
 clear hlt hk
 go_wp2
 go_ret
 exact⟨⟨lo,rfl,hhn,HP.out⟩,HN.out⟩
theorem l3State_any (B B':Nat)(v v':Value)(ws:List (List Int))(xs:List Int)(w:World)(h0:HWords B w v ws)(h1:HInts B' w v' xs)(ha:AscW ws)(hl:ws.length<=1048576) :
  Calls Try.prog 28 #[v,v'] w λe w'=>e=.returned (.int .i64 (stW ws xs))/\Nx w w':=by
 have HH:Hid (HWords B w v ws):=h0
 have HX:Hid (HInts B' w v' xs):=h1
 have HA:Hid (AscW ws):=ha
 have HL:Hid (ws.length<=1048576):=hl
 obtain⟨a,cap,rfl,hn,hk⟩:=h0
 clear h1 ha
 generalize hz:ws.length=n at *
 have HZ:Hid (ws.length=n):=hz
 clear hz
 go_enter Try.func28,Try.ntmps28
 go_wp2_with fail
 refine(l3Place_any B B' _ _ ws xs _ HH.out HX.out HA.out (by rw[HZ.out];exact HL.out)).mono ?_
 rintro e w1 ⟨⟨lo,rfl,hlo,hp⟩,hx⟩
 rw[HZ.out] at hlo
 have HP:Hid (PlaceW ws xs lo lo):=hp
 have HN:Hid (Nx w w1):=hx
 clear hp hx
 by_cases hlt:lo<n
 ·have hlt':(lo:Int)<n:=by omega
  obtain⟨b,off,rfl,hB,hb,hc⟩:=hk (by omega)
  obtain⟨vi,hv1,hv2,_⟩:=hc lo hlt
  have c0:=cell_next HN.out hb hv1
  have HVI:Hid (HInts B w1 vi (wd ws lo)):=hv2.next HN.out
  clear hc hk hv1 hv2
  go_wp2_with fail
  refine(l2Same_any B B' _ _ _ xs _ HVI.out (HX.out.next HN.out)).mono ?_
  rintro e w2 ⟨rfl,hx⟩
  have HN2:Hid (Nx w w2):=HN.out.trans hx
  clear hx c0
  by_cases he:wd ws lo=xs
  ·have HF:Hid ((lo:Int)=stW ws xs):=place_yes HP.out (by rw[HZ.out];exact hlt) he
   have hd:decide (wd ws lo=xs)=true:=by simpa using he
   rw[hd]
   clear he hd
   go_wp2
   go_ret
   exact⟨ret_int HF.out,HN2.out⟩
  ·have HF:Hid (-1=stW ws xs):=place_no HA.out HP.out λ_=>he
   have hd:decide (wd ws lo=xs)=false:=by simpa using he
   rw[hd]
   clear he hd
   go_wp2
   go_ret
   exact⟨ret_int HF.out,HN2.out⟩
 have hlt':¬(lo:Int)<n:=by omega
 have HF:Hid (-1=stW ws xs):=place_no HA.out HP.out λh=>by rw[HZ.out] at h;omega
 clear hlt hk
 go_wp2
 go_ret
 exact⟨ret_int HF.out,HN.out⟩
def lngW (ws:List (List Int))(x:List Int):Nat->Nat->Int
 |_,0=>-1
 |k,f+1=>if 0<=stW ws (x.drop k) then stW ws (x.drop k) else lngW ws x (k+1) f
theorem iat_drop (x:List Int)(k i:Nat):iat (x.drop k) i=iat x (k+i):=by simp[iat,List.getD]
theorem HInts.drop {B:Nat}{w:World}{a:Option Addr}{n c k c':Nat}{xs:List Int}(h:HInts B w (.slice a n c) xs)(hk:k<=n)(a':Option Addr)(ha:∀b off,a=some ⟨b,off,none⟩->0<n-k->a'=some ⟨b,off+k,none⟩):HInts B w (.slice a' (n-k) c') (xs.drop k):=by
 obtain⟨a0,cap,e,hn,hc⟩:=h
 simp only[Value.slice.injEq] at e
 obtain⟨rfl,rfl,rfl⟩:=e
 refine⟨a',c',by rw[List.length_drop],by rw[List.length_drop];omega,λh0=>?_⟩
 rw[List.length_drop] at h0
 obtain⟨b,off,rfl,hB,hb,hcc⟩:=hc (by omega)
 refine⟨b,off+k,ha b off rfl h0,hB,hb,λi hi=>?_⟩
 rw[List.length_drop] at hi
 show w.cell? ⟨b,off+k+i,none⟩=_
 rw[iat_drop,Nat.add_assoc]
 exact hcc (k+i) (by omega)
theorem l3Longest_any (B B':Nat)(v v':Value)(ws:List (List Int))(xs:List Int)(k0:Nat)(w:World)(h0:HWords B w v ws)(h1:HInts B' w v' xs)(ha:AscW ws)(hl:ws.length<=1048576)(hx:xs.length<=1048576)(hk0:k0<=xs.length+1)(hcp:CapOk v') :
  Calls Try.prog 15 #[v,v',.int .i64 k0] w λe w'=>e=.returned (.int .i64 (lngW ws xs k0 (xs.length+1-k0)))/\Nx w w':=by
 have HH:Hid (HWords B w v ws):=h0
 have HX:Hid (HInts B' w v' xs):=h1
 have HA:Hid (AscW ws):=ha
 have HL:Hid (ws.length<=1048576):=hl
 obtain⟨a,cap,rfl,hn,hk⟩:=h1
 obtain⟨a',n',c',e,hcp⟩:=hcp
 simp only[Value.slice.injEq] at e
 obtain⟨rfl,rfl,rfl⟩:=e
 clear ha h0 hk
 generalize hz:xs.length=n at *
 have HZ:Hid (xs.length=n):=hz
 have HC:Hid (n<=cap):=hcp
 clear hz hcp
 go_enter Try.func15,Try.ntmps15
 go_wp2
 go_loopw [7,8] (λi z wr=>∃k:Nat,k<=n+1/\i=.int .i64 k/\Hid (lngW ws xs k0 (n+1-k0)=lngW ws xs k (n+1-k))/\Hid (Nx w wr)) (λi _ _=>n+1-(intOf i).toNat)
 case atStart=>exact⟨k0,hk0,rfl,rfl,Nx.refl _⟩
 obtain⟨k,hkn,rfl,HE,HN⟩:=hrel
 by_cases hlt:k<=n
 ·have hlt':(k:Int)<=n:=by omega
  have HE':Hid (lngW ws xs k0 (n+1-k0)=if 0<=stW ws (xs.drop k) then stW ws (xs.drop k) else lngW ws xs (k+1) (n+1-(k+1))):=by
   unfold Hid
   rw[HE.out,show n+1-k=(n+1-(k+1))+1 by omega,lngW]
  by_cases hck:cap=k
  ·have hnk:n-k=0:=by have:=HC.out;omega
   have HD:Hid (HInts B' wr (.slice a (n-k) 0) (xs.drop k)):=(HX.out.next HN.out).drop (by omega) a (λb off _ h=>by omega)
   subst hck
   clear hnk
   go_wp2_with fail
   refine(l3State_any B B' _ _ ws (xs.drop cap) _ (HH.out.next HN.out) HD.out HA.out HL.out).mono ?_
   rintro e w1 ⟨rfl,hx1⟩
   have HN1:Hid (Nx w w1):=HN.out.trans hx1
   clear hx1 HN HD
   generalize stW ws (xs.drop cap)=z at *
   by_cases hz:0<=z
   ·have hd:decide (0<=z)=true:=by simpa using hz
    have HF:Hid (z=lngW ws xs k0 (n+1-k0)):=by unfold Hid;rw[HE'.out,if_pos hz]
    clear hz
    go_wp2
    go_ret
    exact⟨ret_int HF.out,HN1.out⟩
   ·have hd:decide (0<=z)=false:=by simpa using hz
    have HF:Hid (lngW ws xs k0 (n+1-k0)=lngW ws xs (cap+1) (n+1-(cap+1))):=by unfold Hid;rw[HE'.out,if_neg hz]
    clear hz
    go_wp2
    go_roundw
    case rel=>exact⟨cap+1,by omega,by go_num,HF,HN1⟩
    case measure=>simp[intOf];omega
  ·have HD:Hid (HInts B' wr (.slice (Option.map (λx=>x.add k) a) (n-k) (cap-k)) (xs.drop k)):=(HX.out.next HN.out).drop (by omega) _ (λb off e h=>by rw[e];exact congrArg some (Addr.add_lit _ _ _))
   go_wp2_with fail
   refine(l3State_any B B' _ _ ws (xs.drop k) _ (HH.out.next HN.out) HD.out HA.out HL.out).mono ?_
   rintro e w1 ⟨rfl,hx1⟩
   have HN1:Hid (Nx w w1):=HN.out.trans hx1
   clear hx1 HN HD
   generalize stW ws (xs.drop k)=z at *
   by_cases hz:0<=z
   ·have hd:decide (0<=z)=true:=by simpa using hz
    have HF:Hid (z=lngW ws xs k0 (n+1-k0)):=by unfold Hid;rw[HE'.out,if_pos hz]
    clear hz
    go_wp2
    go_ret
    exact⟨ret_int HF.out,HN1.out⟩
   ·have hd:decide (0<=z)=false:=by simpa using hz
    have HF:Hid (lngW ws xs k0 (n+1-k0)=lngW ws xs (k+1) (n+1-(k+1))):=by unfold Hid;rw[HE'.out,if_neg hz]
    clear hz
    go_wp2
    go_roundw
    case rel=>exact⟨k+1,by omega,by go_num,HF,HN1⟩
    case measure=>simp[intOf];omega
 have ek:k=n+1:=by omega
 have hlt':¬(k:Int)<=n:=by omega
 have HF:Hid (-1=lngW ws xs k0 (n+1-k0)):=by unfold Hid;rw[HE.out,ek,Nat.sub_self,lngW]
 clear hlt ek
 go_wp2
 go_ret
 exact⟨ret_int HF.out,HN.out⟩
structure Au where
 pa:List Int
 la:List Int
 fa:List Int
 mu:List Int
 bd:List Bool
def bat (bs:List Bool)(i:Nat):Bool:=bs.getD i false
theorem bat_eq {zs:List Bool}{i:Nat}(h:i<zs.length):bat zs i=zs[i]:=by simp[bat,List.getD,h]
def HBools (B:Nat)(w:World)(v:Value)(bs:List Bool):Prop:=
 HSlice B w v bs.length λb off i=>w.cell? ⟨b,off+i,none⟩=some (.bool (bat bs i))
theorem HBools.keep {B:Nat}{w w':World}{v:Value}{bs:List Bool}(h:HBools B w v bs)(k:Keeps B w w'):HBools B w' v bs:=
 HSlice.mono h (Nat.le_refl _) k.1 λb off hb hs i hi hc=>(k.2 b hb hs _).trans hc
theorem HBools.next {B:Nat}{w w':World}{v:Value}{bs:List Bool}(h:HBools B w v bs)(k:Nx w w'):HBools B w' v bs:=h.keep (k.keeps B)
theorem HBools.base {B B':Nat}{w:World}{v:Value}{bs:List Bool}(h:HBools B w v bs)(hB:B'<=B):HBools B' w v bs:=
 HSlice.mono h hB (Nat.le_refl _) λb off hb hs i hi hc=>hc
structure HA (B:Nat)(w:World)(v0 v1 v2 v3 v4:Value)(A:Au):Prop where
 h0:HInts B w v0 A.pa
 h1:HInts B w v1 A.la
 h2:HInts B w v2 A.fa
 h3:HInts B w v3 A.mu
 h4:HBools B w v4 A.bd
theorem HA.keep {B:Nat}{w w':World}{v0 v1 v2 v3 v4:Value}{A:Au}(h:HA B w v0 v1 v2 v3 v4 A)(k:Keeps B w w'):HA B w' v0 v1 v2 v3 v4 A:=⟨h.h0.keep k,h.h1.keep k,h.h2.keep k,h.h3.keep k,h.h4.keep k⟩
theorem HA.next {B:Nat}{w w':World}{v0 v1 v2 v3 v4:Value}{A:Au}(h:HA B w v0 v1 v2 v3 v4 A)(k:Nx w w'):HA B w' v0 v1 v2 v3 v4 A:=h.keep (k.keeps B)
def nw (A:Au)(ws:List (List Int))(s:Nat):List Int:=wd ws (iat A.pa s).toNat++[iat A.la s]
def okR (A:Au)(s:Nat):Bool:=decide (0<=iat A.pa s)&&(decide (iat A.pa s<(s:Int))&&(decide (0<=iat A.la s)&&decide (iat A.la s<4000)))
def okW (A:Au)(ws:List (List Int))(s:Nat):Bool:=okR A s&&(decide ((nw A ws s).length<=402)&&befB (wd ws (s-1)) (nw A ws s))
def okS (A:Au)(ws:List (List Int))(s:Nat):Bool:=if s=0 then (iat A.pa 0==-1)&&(iat A.la 0==-1) else okW A ws s
def spellK (A:Au):Nat->List (List Int)×Bool
 |0=>([],true)
 |s+1=>if ((spellK A s).2&&okS A (spellK A s).1 s)=true then ((spellK A s).1++[if s=0 then [] else nw A (spellK A s).1 s],true) else ((spellK A s).1,false)
theorem spellK_go {A:Au}{s:Nat}{ws:List (List Int)}(h:spellK A s=(ws,true))(ho:okS A ws s=true):spellK A (s+1)=(ws++[if s=0 then [] else nw A ws s],true):=by
 rw[spellK,h]
 simp[ho]
theorem spellK_stop {A:Au}{s:Nat}{ws:List (List Int)}(h:spellK A s=(ws,true))(ho:okS A ws s=false)(d:Nat):spellK A (s+1+d)=(ws,false):=by
 induction d with
 |zero=>rw[Nat.add_zero,spellK,h];simp[ho]
 |succ d ih=>rw[<-Nat.add_assoc,spellK,ih];simp
theorem HWords.at {B:Nat}{w:World}{a:Option Addr}{n c:Nat}{ws:List (List Int)}(h:HWords B w (.slice a n c) ws)(h0:0<n):∃b off,a=some ⟨b,off,none⟩/\∀i,i<n->∃vi,w.cell? ⟨b,off+i,none⟩=some vi/\HInts B w vi (wd ws i)/\CapOk vi:=by
 obtain⟨a',c',e,_,hk⟩:=h
 simp only[Value.slice.injEq] at e
 obtain⟨rfl,rfl,rfl⟩:=e
 obtain⟨b,off,ha,_,_,hc⟩:=hk h0
 exact⟨b,off,ha,hc⟩
theorem spell_len {A:Au}{s:Nat}{ws:List (List Int)}(h:spellK A s=(ws,true)):∀i,(wd ws i).length<=402:=by
 induction s generalizing ws with
 |zero=>
  rw[spellK] at h
  obtain⟨rfl,_⟩:=Prod.mk.inj h
  intro i
  simp[wd]
 |succ s ih=>
  rw[spellK] at h
  split at h
  ·rename_i hc
   simp only[Bool.and_eq_true] at hc
   have h1:=ih (ws:=(spellK A s).1) (by rw[<-hc.1])
   obtain⟨rfl,_⟩:=Prod.mk.inj h
   intro i
   by_cases e:i<(spellK A s).1.length
   ·rw[wd_snoc e];exact h1 i
   ·by_cases e':i=(spellK A s).1.length
    ·rw[wd_end e']
     split
     ·simp
     ·rename_i hs
      have:=hc.2
      unfold okS okW at this
      rw[if_neg hs] at this
      simp only[Bool.and_eq_true,decide_eq_true_eq] at this
      exact this.2.1
    ·have:wd ((spellK A s).1++[if s=0 then [] else nw A (spellK A s).1 s]) i=[]:=by
      simp[wd,List.getD,List.getElem?_eq_none (show((spellK A s).1++[if s=0 then [] else nw A (spellK A s).1 s]).length<=i by simp;omega)]
     rw[this]
     simp
  ·obtain⟨_,h2⟩:=Prod.mk.inj h
   simp at h2
theorem l3Spell_any (B:Nat)(v0 v1 v2 v3 v4:Value)(A:Au)(w:World)(h0:HA B w v0 v1 v2 v3 v4 A)(hl:A.la.length=A.pa.length)(hn:A.pa.length<=2000) :
  Calls Try.prog 10 #[.agg #[v0,v1,v2,v3,v4]] w λe w'=>(∃v,e=.returned v/\OwnW w.heap.size w' v (spellK A A.pa.length).1)/\Nx w w':=by
 obtain⟨ii,hi,hz0,hz1,hz2⟩:=info_parts infoWord
 obtain⟨⟨a0,c0,rfl,hm0,hk0⟩,⟨a1,c1,rfl,hm1,hk1⟩,h2,h3,h4⟩:=h0
 clear h2 h3 h4 hm0 hm1
 rw[hl] at hk1 ⊢
 generalize hz:A.pa.length=n at *
 clear hl
 clear hz
 have HO1:Hid (OwnW (w.heap.size+1) ((w.alloc (.cells #[.slice a0 n c0,.slice a1 n c1,v2,v3,v4] 26)).alloc (.cells #[] 51)) (.slice (some ⟨w.heap.size+1,0,none⟩) 0 0) []):=by
  unfold Hid
  have:=ownW_none (w.heap.size+1) (w.alloc (.cells #[.slice a0 n c0,.slice a1 n c1,v2,v3,v4] 26)) (by simp)
  simpa using this
 go_enter Try.func10,Try.ntmps10
 go_wp2
 go_loopw [3,4,5] (λv i s5 wr=>∃k:Nat,k<=n/\i=.int .i64 k/\Hid (∃ws,spellK A k=(ws,true)/\ws.length=k/\OwnW (w.heap.size+1) wr v ws)/\Hid (Nx (w.alloc (.cells #[.slice a0 n c0,.slice a1 n c1,v2,v3,v4] 26)) wr)) (λ_ i _ _=>n-(intOf i).toNat)
 case atStart=>exact⟨0,Nat.zero_le _,rfl,⟨[],rfl,rfl,HO1.out⟩,box1 _ _⟩
 clear HO1
 obtain⟨k,hkn,rfl,HP,HN⟩:=hrel
 have HW:Hid (Nx w wr):=(box1 _ _).trans HN.out
 have BA:=(Blk.new w #[.slice a0 n c0,.slice a1 n c1,v2,v3,v4] 26 _ rfl).next HN.out
 have HBA:Hid (Blk wr w.heap.size #[.slice a0 n c0,.slice a1 n c1,v2,v3,v4]):=BA
 have HZ3:Hid (w.heap.size+1<=wr.heap.size):=by have:=HN.out.size;unfold Hid;simpa using this
 by_cases hlt:k<n
 ·have hlt':(k:Int)<n:=by omega
  obtain⟨b0,o0,ha0,_,hb0,hc0⟩:=hk0 (by omega)
  obtain⟨b1,o1,ha1,_,hb1,hc1⟩:=hk1 (by omega)
  subst ha0 ha1
  obtain⟨ws,hsp,hwl,hwo⟩:=HP.out
  obtain⟨av,cv,hvs⟩:=hwo.slice
  rw[hwl] at hvs
  subst hvs
  have HWO:Hid (OwnW (w.heap.size+1) wr (.slice av k cv) ws):=hwo
  have HSP:Hid (spellK A k=(ws,true)):=hsp
  have HWL:Hid (ws.length=k):=hwl
  have HLW:Hid (∀i,(wd ws i).length<=402):=spell_len hsp
  have x0:=cell_next HW.out hb0 (hc0 k hlt)
  have y0:=cell_next HW.out hb1 (hc1 k hlt)
  have k0:=BA.cell (i:=0) rfl
  have k1:=BA.cell (i:=1) rfl
  have HRS:Hid (okS A ws k=false->OwnW w.heap.size wr (.slice av k cv) (spellK A n).1):=λh=>by
   have:=spellK_stop HSP.out h (n-(k+1))
   rw[show k+1+(n-(k+1))=n by omega] at this
   rw[this]
   obtain⟨cs,q1,q2⟩:=HWO.out
   refine⟨cs,?_,λi hi=>(q2 i hi).base (Nat.le_succ _)⟩
   obtain⟨r1,r2⟩:=q1
   refine⟨r1,?_⟩
   rcases r2 with r2|⟨g,cap,cur,hv,hg,r⟩
   ·exact Or.inl r2
   ·exact Or.inr ⟨g,cap,cur,hv,by omega,r⟩
  clear hc0 hc1 hk0 hk1 HP hsp hwl hwo BA
  by_cases hk:k=0
  ·subst hk
   rw[Nat.add_zero] at x0 y0
   have hn0:(0:Int)<n:=by omega
   by_cases g1:iat A.pa 0=-1
   ·have f1:(iat A.pa 0 !=-1)=false:=by simpa using g1
    by_cases g2:iat A.la 0=-1
    ·have f2:(iat A.la 0 !=-1)=false:=by simpa using g2
     have HOK:Hid (okS A ws 0=true):=by unfold Hid okS;simp[g1,g2]
     have HRO:Hid (OwnI (w.heap.size+1) (wr.alloc (.cells #[] 2)) (.slice (some ⟨wr.heap.size,0,none⟩) 0 0) []):=ownI_none _ wr HZ3.out
     have HWO':Hid (OwnW (w.heap.size+1) (wr.alloc (.cells #[] 2)) (.slice av 0 cv) ws):=HWO.out.next (box1 _ _)
     clear g1 g2
     obtain⟨cs,q1,q2⟩:=HWO'.out
     have HQ1:Hid ((wr.alloc (.cells #[] 2)).ownsRow (w.heap.size+1) 51 1 (.slice av 0 cv) ws.length cs):=q1
     have HQ2:Hid (∀i,i<ws.length->OwnI (w.heap.size+1) (wr.alloc (.cells #[] 2)) (vat cs i) (wd ws i)):=q2
     clear q1 q2
     go_wp2_with (at_builtin;refine wpList_append_own_at _ rfl _ _ 36 rfl (w.heap.size+1) 51 ii (.agg #[.slice none 0 0]) 1 24 Try.underlying36 hi hz0 hz1 hz2 rfl (by decide) _ _ _ rfl (World.ownsRow.alloc HQ1.out _) ⟨wr.heap.size+1,0,none⟩ 1 1 [.slice (some ⟨wr.heap.size,0,none⟩) 0 0] rfl rfl ?c1 ?c2 ?c3 ?c4 ?c5 ?_)
     case c1=>
      intro j u hj
      have:=new_cells (wr.alloc (.cells #[] 2)) _ 51 [.slice (some ⟨wr.heap.size,0,none⟩) 0 0] rfl j u hj
      rwa [size_alloc'] at this
     case c2=>intro u hu;simp at hu;subst hu;rfl
     case c3=>rw[HWL.out];unfold maxLen;omega
     case c4=>rw[HWL.out];omega
     case c5=>have:=HZ3.out;simp;omega
     intro v7 w7 hown hgrow _ _
     have HO7:Hid (OwnW (w.heap.size+1) w7 v7 (ws++[[]])):=OwnW.snoc HQ1.out HQ2.out HRO.out _ hgrow hown
     have HS7:Hid (spellK A 1=(ws++[[]],true)):=spellK_go HSP.out HOK.out
     have HN7:Hid (Nx (w.alloc (.cells #[.slice (some ⟨b0,o0,none⟩) n c0,.slice (some ⟨b1,o1,none⟩) n c1,v2,v3,v4] 26)) w7):=Below.grown ((HN.out.alloc _).alloc _) hgrow (by have:=HZ3.out;simp;omega) (λg hg=>by have:=(own_lt HQ1.out g hg).1;simpa using this)
     clear hown hgrow HQ1 HQ2 HRO HWO' x0 y0 k0 k1 HN
     go_wp2
     go_roundw
     case rel=>exact⟨1,by omega,by go_num,⟨_,HS7.out,by rw[List.length_append,HWL.out];rfl,HO7.out⟩,HN7⟩
     case measure=>simp[intOf];omega
    ·have f2:(iat A.la 0 !=-1)=true:=by simpa using g2
     have HF:Hid (OwnW w.heap.size wr (.slice av 0 cv) (spellK A n).1):=HRS.out (by unfold okS;simp;omega)
     clear g1 g2
     go_wp2
     go_ret
     exact⟨⟨_,rfl,HF.out⟩,HW.out⟩
   ·have f1:(iat A.pa 0 !=-1)=true:=by simpa using g1
    have HF:Hid (OwnW w.heap.size wr (.slice av 0 cv) (spellK A n).1):=HRS.out (by unfold okS;simp;omega)
    clear g1
    go_wp2
    go_ret
    exact⟨⟨_,rfl,HF.out⟩,HW.out⟩
  have hkz:((k:Int)==0)=false:=by simp;omega
  have HOD:Hid (okS A ws k=okW A ws k):=by unfold Hid okS;rw[if_neg hk]
  have HK1:Hid (1<=k):=by unfold Hid;omega
  clear hk
  by_cases g1:iat A.pa k<0
  ·have f1:decide (iat A.pa k<0)=true:=by simpa using g1
   have HF:Hid (OwnW w.heap.size wr (.slice av k cv) (spellK A n).1):=HRS.out (by rw[HOD.out];unfold okW okR;simp;omega)
   clear g1
   go_wp2
   go_ret
   exact⟨⟨_,rfl,HF.out⟩,HW.out⟩
  have f1:decide (iat A.pa k<0)=false:=by simpa using g1
  by_cases g2:(k:Int)<=iat A.pa k
  ·have f2:decide ((k:Int)<=iat A.pa k)=true:=by simpa using g2
   have HF:Hid (OwnW w.heap.size wr (.slice av k cv) (spellK A n).1):=HRS.out (by rw[HOD.out];unfold okW okR;simp;omega)
   clear g1 g2
   go_wp2
   go_ret
   exact⟨⟨_,rfl,HF.out⟩,HW.out⟩
  have f2:decide ((k:Int)<=iat A.pa k)=false:=by simpa using g2
  by_cases g3:iat A.la k<0
  ·have f3:decide (iat A.la k<0)=true:=by simpa using g3
   have HF:Hid (OwnW w.heap.size wr (.slice av k cv) (spellK A n).1):=HRS.out (by rw[HOD.out];unfold okW okR;simp;omega)
   clear g1 g2 g3
   go_wp2
   go_ret
   exact⟨⟨_,rfl,HF.out⟩,HW.out⟩
  have f3:decide (iat A.la k<0)=false:=by simpa using g3
  by_cases g4:4000<=iat A.la k
  ·have f4:decide (4000<=iat A.la k)=true:=by simpa using g4
   have HF:Hid (OwnW w.heap.size wr (.slice av k cv) (spellK A n).1):=HRS.out (by rw[HOD.out];unfold okW okR;simp;omega)
   clear g1 g2 g3 g4
   go_wp2
   go_ret
   exact⟨⟨_,rfl,HF.out⟩,HW.out⟩
  have f4:decide (4000<=iat A.la k)=false:=by simpa using g4
  have HOR:Hid (okR A k=true):=by unfold Hid okR;simp;omega
  obtain⟨p,hp⟩:∃p:Nat,iat A.pa k=(p:Int):=⟨(iat A.pa k).toNat,by omega⟩
  have hpk:p<k:=by omega
  have hpk':(p:Int)<k:=by omega
  have HNW:Hid (nw A ws k=wd ws p++[iat A.la k]):=by unfold Hid nw;rw[hp,Int.toNat_natCast]
  rw[hp] at x0 f1 f2
  clear g1 g2 g3 g4 hp
  obtain⟨gw,ow,hav,hcw⟩:=HWO.out.held.at (by omega)
  subst hav
  obtain⟨vp,hvp1,hvp2,_⟩:=hcw p hpk
  obtain⟨vq,hvq1,hvq2,_⟩:=hcw (k-1) (by omega)
  have HVP:Hid (HInts (w.heap.size+1) wr vp (wd ws p)):=hvp2
  have HVQ:Hid (HInts (w.heap.size+1) wr vq (wd ws (k-1))):=hvq2
  have HLP:Hid ((wd ws p).length<=402):=HLW.out p
  have HVQ1:Hid (wr.cell? ⟨gw,ow+(k-1),none⟩=some vq):=hvq1
  clear hcw hvp2 hvq2 hvq1
  generalize hla:iat A.la k=lk at *
  have HLA:Hid (iat A.la k=lk):=hla
  clear hla
  have ne1:=World.new_ne wr _ hvp1
  have ne2:=World.new_ne wr _ x0
  have ne3:=World.new_ne wr _ y0
  have ne4:=World.new_ne wr _ k0
  go_upto_region 11 with fail
  go_cut [5] from 7 to 101 (λs5 wc=>Hid (OwnI wr.heap.size wc s5 (wd ws p++[lk]))/\Hid (Nx wr wc))
  case first=>
   go_region_held3 (λw'=>w'.cell? ⟨w.heap.size,0,none⟩=some (.slice (some ⟨b0,o0,none⟩) n c0)/\w'.cell? ⟨w.heap.size,1,none⟩=some (.slice (some ⟨b1,o1,none⟩) n c1)/\w'.cell? ⟨b0,o0+k,none⟩=some (.int .i64 (p:Int))/\w'.cell? ⟨b1,o1+k,none⟩=some (.int .i64 lk)/\w'.cell? ⟨gw,ow+p,none⟩=some vp) (go_keep) (first|(go_at_call 19;refine(l2Plus_any (w.heap.size+1) wr.heap.size _ _ (wd ws p) [lk] _ (by first|exact HVP.out.next ((Nx.refl wr).drew.alloc _)|exact HVP.out.next ((Nx.refl wr).alloc _).drew) (by first|exact(ownI_one wr.heap.size wr.drew lk (Nat.le_refl _)).held|exact(ownI_one wr.heap.size wr lk (Nat.le_refl _)).drew.held) (by have:=HLP.out;omega) (by simp)).mono ?_;rintro e w1 ⟨⟨u,rfl,hu⟩,hx⟩;have hxw:Nx wr w1:=(by first|exact(((Nx.refl wr).alloc _).drew).trans hx|exact((Nx.refl wr).drew.alloc _).trans hx);have t0:=cellq hxw k0;have t1:=cellq hxw k1;have t2:=cellq hxw x0;have t3:=cellq hxw y0;have t4:=cellq hxw hvp1))
   all_goals go_wp2
   all_goals go_meet
   all_goals exact⟨hu.base (Nat.le_of_lt (by simp)),hxw⟩
  case rest=>
  obtain⟨HU,HC⟩:=hcut
  rw[<-HNW.out] at HU
  have HWc:Hid (Nx w wc):=HW.out.trans HC.out
  have HNc:Hid (Nx (w.alloc (.cells #[.slice (some ⟨b0,o0,none⟩) n c0,.slice (some ⟨b1,o1,none⟩) n c1,v2,v3,v4] 26)) wc):=HN.out.trans HC.out
  have HWOc:Hid (OwnW (w.heap.size+1) wc (.slice (some ⟨gw,ow,none⟩) k cv) ws):=HWO.out.next HC.out
  have HUc:Hid (OwnI (w.heap.size+1) wc u5 (nw A ws k)):=HU.out.base HZ3.out
  have HZc:Hid (w.heap.size+1<=wc.heap.size):=Nat.le_trans HZ3.out HC.out.size
  have HVQc:Hid (HInts (w.heap.size+1) wc vq (wd ws (k-1))):=HVQ.out.next HC.out
  have HRSc:Hid (okS A ws k=false->OwnW w.heap.size wc (.slice (some ⟨gw,ow,none⟩) k cv) (spellK A n).1):=λh=>(HRS.out h).next HC.out
  have hvq:=cellq HC.out HVQ1.out
  have HOKW:Hid (okW A ws k=(decide ((nw A ws k).length<=402)&&befB (wd ws (k-1)) (nw A ws k))):=by unfold Hid okW;rw[HOR.out,Bool.true_and]
  obtain⟨au,cu,hus⟩:=HUc.out.slice
  subst hus
  generalize hnl:(nw A ws k).length=nl at *
  have HNL:Hid ((nw A ws k).length=nl):=hnl
  clear hnl x0 y0 k0 k1 hvp1 ne1 ne2 ne3 ne4 HVP HVQ HU HWO HRS HN HW HC f1 f2 f3 f4 hpk'
  obtain⟨j,rfl⟩:∃j,k=j+1:=⟨k-1,by have:=HK1.out;omega⟩
  have hwj:=wrapJ j (by omega)
  have hjl:(j:Int)<(j:Int)+1:=by omega
  rw[Nat.add_sub_cancel] at hvq HVQc HOKW
  by_cases g5:nl<=402
  case neg=>
   have f5:decide (402<(nl:Int))=true:=by simp;omega
   have HF:Hid (OwnW w.heap.size wc (.slice (some ⟨gw,ow,none⟩) (j+1) cv) (spellK A n).1):=HRSc.out (by rw[HOD.out,HOKW.out];simp;omega)
   clear g5
   go_wp2
   go_ret
   exact⟨⟨_,rfl,HF.out⟩,HWc.out⟩
  have f5:decide (402<(nl:Int))=false:=by simp;omega
  go_wp2_with fail
  refine(l3Before_any (w.heap.size+1) (w.heap.size+1) _ _ (wd ws j) (nw A ws (j+1)) _ HVQc.out HUc.out.held).mono ?_
  rintro e w2 ⟨rfl,hx⟩
  have HC2:Hid (Nx wc w2):=hx
  have HW2:Hid (Nx w w2):=HWc.out.trans hx
  clear hx hvq
  cases hbf:befB (wd ws j) (nw A ws (j+1))
  ·have HF:Hid (OwnW w.heap.size w2 (.slice (some ⟨gw,ow,none⟩) (j+1) cv) (spellK A n).1):=(HRSc.out (by rw[HOD.out,HOKW.out,hbf];simp)).next HC2.out
   clear hbf g5
   go_wp2
   go_ret
   exact⟨⟨_,rfl,HF.out⟩,HW2.out⟩
  have HOK:Hid (okS A ws (j+1)=true):=by unfold Hid;rw[HOD.out,HOKW.out,hbf];simp;omega
  have HWO2:Hid (OwnW (w.heap.size+1) w2 (.slice (some ⟨gw,ow,none⟩) (j+1) cv) ws):=HWOc.out.next HC2.out
  have HU2:Hid (OwnI (w.heap.size+1) w2 (.slice au nl cu) (nw A ws (j+1))):=HUc.out.next HC2.out
  have HN2:Hid (Nx (w.alloc (.cells #[.slice (some ⟨b0,o0,none⟩) n c0,.slice (some ⟨b1,o1,none⟩) n c1,v2,v3,v4] 26)) w2):=HNc.out.trans HC2.out
  have HZ2:Hid (w.heap.size+1<=w2.heap.size):=Nat.le_trans HZc.out HC2.out.size
  obtain⟨cs,q1,q2⟩:=HWO2.out
  have HQ1:Hid (w2.ownsRow (w.heap.size+1) 51 1 (.slice (some ⟨gw,ow,none⟩) (j+1) cv) ws.length cs):=q1
  have HQ2:Hid (∀i,i<ws.length->OwnI (w.heap.size+1) w2 (vat cs i) (wd ws i)):=q2
  clear q1 q2 hbf g5 HRSc HWOc HUc HNc HVQc
  go_wp2_with (at_builtin;refine wpList_append_own_at _ rfl _ _ 36 rfl (w.heap.size+1) 51 ii (.agg #[.slice none 0 0]) 1 24 Try.underlying36 hi hz0 hz1 hz2 rfl (by decide) _ _ _ rfl (World.ownsRow.alloc HQ1.out _) ⟨w2.heap.size,0,none⟩ 1 1 [.slice au nl cu] rfl rfl (λj u hj=>new_cells w2 _ _ _ rfl j u hj) ?c2 ?c3 ?c4 ?c5 ?_)
  case c2=>intro u hu;simp at hu;subst hu;rfl
  case c3=>rw[HWL.out];unfold maxLen;omega
  case c4=>rw[HWL.out];omega
  case c5=>have:=HZ2.out;simp;omega
  intro v7 w7 hown hgrow _ _
  have HO7:Hid (OwnW (w.heap.size+1) w7 v7 (ws++[nw A ws (j+1)])):=OwnW.snoc HQ1.out HQ2.out HU2.out _ hgrow hown
  have HS7:Hid (spellK A (j+1+1)=(ws++[nw A ws (j+1)],true)):=spellK_go HSP.out HOK.out
  have HN7:Hid (Nx (w.alloc (.cells #[.slice (some ⟨b0,o0,none⟩) n c0,.slice (some ⟨b1,o1,none⟩) n c1,v2,v3,v4] 26)) w7):=Below.grown (HN2.out.alloc _) hgrow (by have:=HZ2.out;simp;omega) (λg hg=>by have:=(own_lt HQ1.out g hg).1;simpa using this)
  clear hown hgrow HQ1 HQ2 HU2 HWO2 HN2
  go_wp2
  go_roundw
  case rel=>exact⟨j+1+1,by omega,by go_num,⟨_,HS7.out,by rw[List.length_append,HWL.out];rfl,HO7.out⟩,HN7⟩
  case measure=>simp[intOf];omega
 have ek:n=k:=by omega
 subst ek
 have k0:=BA.cell (i:=0) rfl
 have HF:Hid (OwnW w.heap.size wr u3 (spellK A n).1):=by
  obtain⟨ws,hsp,hwl,hwo⟩:=HP.out
  unfold Hid
  rw[hsp]
  obtain⟨cs,q1,q2⟩:=hwo
  refine⟨cs,?_,λi hi=>(q2 i hi).base (Nat.le_succ _)⟩
  obtain⟨r1,r2⟩:=q1
  refine⟨r1,?_⟩
  rcases r2 with r2|⟨g,cap,cur,hv,hg,r⟩
  ·exact Or.inl r2
  ·exact Or.inr ⟨g,cap,cur,hv,by omega,r⟩
 clear HP BA hlt hkn
 go_wp2
 go_ret
 exact⟨⟨_,rfl,HF.out⟩,HW.out⟩
theorem cellq' {w w':World}(k:Nx w w'){b o:Nat}{v:Value}(h:w.cell? ⟨b,o,none⟩=some v):w'.cell? ⟨b,o,none⟩=some v:=cell_next k (cell_lt h) h
def ratA (rs:List Ru)(i:Nat):Ru:=rs.getD i ⟨0,false,[]⟩
def HRule (B:Nat)(w:World)(b o:Nat)(x:Ru):Prop:=
 ∃a c,w.cell? ⟨b,o,none⟩=some (.int .i64 x.rel)/\w.cell? ⟨b,o+1,none⟩=some (.bool x.only)/\w.cell? ⟨b,o+2,none⟩=some (.slice a x.seq.length c)/\HInts B w (.slice a x.seq.length c) x.seq/\x.seq.length<=c
def HRules (B:Nat)(w:World)(v:Value)(rs:List Ru):Prop:=HSlice B w v rs.length λb off i=>HRule B w b (off+i*3) (ratA rs i)
theorem HRule.keep {B:Nat}{w w':World}{b o:Nat}{x:Ru}(h:HRule B w b o x)(hb:B<=b)(hs:b<w.heap.size)(k:Keeps B w w'):HRule B w' b o x:=by
 obtain⟨a,c,h1,h2,h3,h4,h5⟩:=h
 exact⟨a,c,(k.2 b hb hs _).trans h1,(k.2 b hb hs _).trans h2,(k.2 b hb hs _).trans h3,h4.keep k,h5⟩
theorem HRules.keep {B:Nat}{w w':World}{v:Value}{rs:List Ru}(h:HRules B w v rs)(k:Keeps B w w'):HRules B w' v rs:=
 HSlice.mono h (Nat.le_refl _) k.1 λb off hb hs i hi hc=>hc.keep hb hs k
theorem HRules.next {B:Nat}{w w':World}{v:Value}{rs:List Ru}(h:HRules B w v rs)(k:Nx w w'):HRules B w' v rs:=h.keep (k.keeps B)
def edgeB (e:Int):Bool:=decide (0<=e)&&decide (e<4000)
def rgAt (x:Ru):Bool:=decide (2<=x.seq.length)&&(decide (x.seq.length<=402)&&allN x.seq.length (λj=>edgeB (iat x.seq j)))
def rgB (rs:List Ru):Bool:=decide (rs.length<=1000)&&allN rs.length (λi=>rgAt (ratA rs i))
theorem rg_len {rs:List Ru}(h:¬rs.length<=1000):false=rgB rs:=by simp[rgB,h]
theorem rg_no {rs:List Ru}{k n:Nat}(hn:rs.length=n)(hk:k<n)(h:rgAt (ratA rs k)=false):false=rgB rs:=by
 subst hn
 unfold rgB
 rw[allN_no (p:=λi=>rgAt (ratA rs i)) hk h];simp
theorem rg_yes {rs:List Ru}{k n:Nat}(hn:rs.length=n)(h1:n<=1000)(hk:n<=k)(h:allTo (λi=>rgAt (ratA rs i)) k):true=rgB rs:=by
 subst hn
 unfold rgB
 rw[allN_yes hk h];simp[h1]
theorem l3RulesGood_any (B:Nat)(v:Value)(rs:List Ru)(w:World)(h0:HRules B w v rs) :
  Calls Try.prog 29 #[v] w λe w'=>e=.returned (.bool (rgB rs))/\w'=w:=by
 obtain⟨a,cap,rfl,hn,hk⟩:=h0
 unfold maxLen at hn
 generalize hz:rs.length=n at *
 have HZ:Hid (rs.length=n):=hz
 clear hz
 by_cases e1:n<=1000
 case neg=>
  have d1:decide (1000<(n:Int))=true:=by simp;omega
  have HF:Hid (false=rgB rs):=rg_len (by rw[HZ.out];exact e1)
  go_enter Try.func29,Try.ntmps29
  go_wp2
  go_ret
  exact⟨ret_bool HF.out,rfl⟩
 have d1:decide (1000<(n:Int))=false:=by simp;omega
 go_enter Try.func29,Try.ntmps29
 go_wp2
 clear d1
 go_loop [3,4] (λi _=>∃k:Nat,k<=n/\i=.int .i64 k/\Hid (allTo (λi=>rgAt (ratA rs i)) k)) (λi _=>n-(intOf i).toNat)
 case atStart=>exact⟨0,Nat.zero_le _,rfl,allTo_zero _⟩
 obtain⟨k,hkn,rfl,HA⟩:=hrel
 by_cases hlt:k<n
 case neg=>
  have HF:Hid (true=rgB rs):=rg_yes HZ.out e1 (by omega) HA.out
  go_wp2
  go_ret
  exact⟨ret_bool HF.out,rfl⟩
 obtain⟨b,off,rfl,_,hb,hc⟩:=hk (by omega)
 obtain⟨sa,sc,c0,c1,c2,hS,hcap⟩:=hc k hlt
 have hlt':(k:Int)<n:=by omega
 clear c0 c1 hc hk
 generalize hx:ratA rs k=x at *
 have HX:Hid (ratA rs k=x):=hx
 clear hx
 obtain⟨sa',sc',e',hsn,hsk⟩:=hS
 simp only[Value.slice.injEq] at e'
 obtain⟨rfl,_,rfl⟩:=e'
 unfold maxLen at hsn
 have HRG:Hid (rgAt x=(decide (2<=x.seq.length)&&(decide (x.seq.length<=402)&&allN x.seq.length (λj=>edgeB (iat x.seq j))))):=rfl
 generalize hm:x.seq.length=m at *
 clear hm
 by_cases g1:2<=m
 case neg=>
  have f1:decide ((m:Int)<2)=true:=by simp;omega
  have HF:Hid (false=rgB rs):=rg_no HZ.out hlt (by rw[HX.out,HRG.out];simp[g1])
  go_wp2
  go_ret
  exact⟨ret_bool HF.out,rfl⟩
 have f1:decide ((m:Int)<2)=false:=by simp;omega
 by_cases g2:m<=402
 case neg=>
  have f2:decide (402<(m:Int))=true:=by simp;omega
  have HF:Hid (false=rgB rs):=rg_no HZ.out hlt (by rw[HX.out,HRG.out];simp[g2])
  go_wp2
  go_ret
  exact⟨ret_bool HF.out,rfl⟩
 have f2:decide (402<(m:Int))=false:=by simp;omega
 go_wp2
 clear f1 f2
 go_loop [4] (λi=>∃q:Nat,q<=m/\i=.int .i64 q/\Hid (allTo (λj=>edgeB (iat x.seq j)) q)) (λi=>m-(intOf i).toNat)
 case atStart=>exact⟨0,Nat.zero_le _,rfl,allTo_zero _⟩
 obtain⟨q,hqm,rfl,HQ⟩:=hrel
 by_cases hql:q<m
 case neg=>
  have HF:Hid (rgAt x=true):=by unfold Hid;rw[HRG.out,allN_yes (by omega) HQ.out];simp[g1,g2]
  go_wp2
  go_round
  case rel=>exact⟨k+1,by omega,by go_num,allTo_succ HA.out (by show rgAt (ratA rs k)=true;rw[HX.out];exact HF.out)⟩
  case measure=>simp[intOf];omega
 obtain⟨b',off',rfl,_,hb',hc'⟩:=hsk (by omega)
 have x0:=hc' q hql
 have hql':(q:Int)<m:=by omega
 clear hc' hsk
 by_cases g3:0<=iat x.seq q
 case neg=>
  have f3:decide (iat x.seq q<0)=true:=by simp;omega
  have HF:Hid (false=rgB rs):=rg_no HZ.out hlt (by rw[HX.out,HRG.out,allN_no hql (by simp[edgeB,g3])];simp)
  clear g3
  go_wp2
  go_ret
  exact⟨ret_bool HF.out,rfl⟩
 have f3:decide (iat x.seq q<0)=false:=by simp;omega
 by_cases g4:iat x.seq q<4000
 case neg=>
  have f4:decide (4000<=iat x.seq q)=true:=by simp;omega
  have HF:Hid (false=rgB rs):=rg_no HZ.out hlt (by rw[HX.out,HRG.out,allN_no hql (by simp[edgeB,g4])];simp)
  clear g3 g4
  go_wp2
  go_ret
  exact⟨ret_bool HF.out,rfl⟩
 have f4:decide (4000<=iat x.seq q)=false:=by simp;omega
 have HE:Hid (edgeB (iat x.seq q)=true):=by unfold Hid;simp[edgeB,g3,g4]
 clear g3 g4
 go_wp2
 go_round
 case rel=>exact⟨q+1,by omega,by go_num,allTo_succ HQ.out HE.out⟩
 case measure=>simp[intOf];omega
def sufB (q xs:List Int):Bool:=decide (q.length<=xs.length)&&allN q.length (λi=>iat xs (xs.length-q.length+i)==iat q i)
theorem l2Suffix_any (B B':Nat)(v v':Value)(xs q:List Int)(w:World)(h0:HInts B w v xs)(h1:HInts B' w v' q) :
  Calls Try.prog 46 #[v,.int .i64 xs.length,v'] w λe w'=>e=.returned (.bool (sufB q xs))/\Nx w w':=by
 have HSD:Hid (sufB q xs=(decide (q.length<=xs.length)&&allN q.length (λi=>iat xs (xs.length-q.length+i)==iat q i))):=rfl
 obtain⟨a,cap,rfl,hn,hk⟩:=h0
 obtain⟨a',cap',rfl,hn',hk'⟩:=h1
 unfold maxLen at hn hn'
 generalize xs.length=n at *
 generalize q.length=m at *
 by_cases e1:m<=n
 case neg=>
  have d1:decide ((n:Int)<m)=true:=by simp;omega
  have HF:Hid (false=sufB q xs):=by unfold Hid;rw[HSD.out];simp[e1]
  go_enter Try.func46,Try.ntmps46
  go_wp2
  go_ret
  exact⟨ret_bool HF.out,Nx.refl _⟩
 have d1:decide ((n:Int)<m)=false:=by simp;omega
 obtain⟨d,rfl⟩:∃d,n=m+d:=⟨n-m,by omega⟩
 have HS2:Hid (sufB q xs=allN m (λi=>iat xs (d+i)==iat q i)):=by
  unfold Hid
  rw[HSD.out,show m+d-m=d by omega]
  simp
 clear HSD d1
 have d1:decide ((m:Int)+d<m)=false:=by simp;omega
 go_enter Try.func46,Try.ntmps46
 go_wp2
 clear d1
 go_loopw [7] (λi wr=>∃k:Nat,k<=m/\i=.int .i64 k/\Hid (allTo (λi=>iat xs (d+i)==iat q i) k)/\Hid (Nx w wr)) (λi _=>m-(intOf i).toNat)
 case atStart=>exact⟨0,Nat.zero_le _,rfl,allTo_zero _,Nx.refl _⟩
 obtain⟨k,hkm,rfl,HA,HN⟩:=hrel
 by_cases hlt:k<m
 case neg=>
  have HF:Hid (true=sufB q xs):=by unfold Hid;rw[HS2.out,allN_yes (by omega) HA.out]
  go_wp2
  go_ret
  exact⟨ret_bool HF.out,HN.out⟩
 obtain⟨b,off,rfl,_,hb,hc⟩:=hk (by omega)
 obtain⟨b',off',rfl,_,hb',hc'⟩:=hk' (by omega)
 have x0:=cell_next HN.out hb (hc (d+k) (by omega))
 have y0:=cell_next HN.out hb' (hc' k hlt)
 have hlt':(k:Int)<m:=by omega
 have w1:IntKind.i64.wrap ((m:Int)+d-m)=(d:Int):=by rw[IntKind.wrap_i64];omega
 have w2:IntKind.i64.wrap ((d:Int)+k)=(d:Int)+k:=by rw[IntKind.wrap_i64];omega
 have hdk:(d:Int)+k<(m:Int)+d:=by omega
 clear hc hc' hk hk'
 cases g:(iat xs (d+k)==iat q k)
 case false=>
  have g':(iat xs (d+k) !=iat q k)=true:=by simpa using g
  have HF:Hid (false=sufB q xs):=by unfold Hid;rw[HS2.out,allN_no hlt g]
  clear g
  go_wp2
  go_quiet (fail)
  go_wp2
  go_ret
  exact⟨ret_bool HF.out,HN.out.trans ⟨rfl,rfl,rfl,Nat.le_refl _,λ_ _=>rfl⟩⟩
 case true=>
  have g':(iat xs (d+k) !=iat q k)=false:=by simpa using g
  have HG:Hid ((iat xs (d+k)==iat q k)=true):=g
  clear g
  go_wp2
  go_quiet (fail)
  go_wp2
  go_roundw
  case rel=>exact⟨k+1,by omega,by go_num,allTo_succ HA.out HG.out,HN.out.trans ⟨rfl,rfl,rfl,Nat.le_refl _,λ_ _=>rfl⟩⟩
  case measure=>simp[intOf];omega
def badAt (x:Ru)(xs:List Int):Bool:=!x.only&&sufB x.seq xs
def badS (rs:List Ru)(xs:List Int):Bool:=!allN rs.length (λi=>!badAt (ratA rs i) xs)
theorem bad_yes {rs:List Ru}{xs:List Int}{k n:Nat}(hn:rs.length=n)(hk:k<n)(h:badAt (ratA rs k) xs=true):true=badS rs xs:=by
 subst hn
 unfold badS
 rw[allN_no (p:=λi=>!badAt (ratA rs i) xs) hk (by simp[h])];rfl
theorem bad_no {rs:List Ru}{xs:List Int}{k n:Nat}(hn:rs.length=n)(hk:n<=k)(h:allTo (λi=>!badAt (ratA rs i) xs) k):false=badS rs xs:=by
 subst hn
 unfold badS
 rw[allN_yes hk h];rfl
theorem l3Bad_any (B B':Nat)(v v':Value)(rs:List Ru)(xs:List Int)(w:World)(h0:HRules B w v rs)(h1:HInts B' w v' xs) :
  Calls Try.prog 32 #[v,v'] w λe w'=>e=.returned (.bool (badS rs xs))/\Nx w w':=by
 have HX:Hid (HInts B' w v' xs):=h1
 obtain⟨a,cap,rfl,hn,hk⟩:=h0
 obtain⟨a',cap',rfl,hn',_⟩:=h1
 unfold maxLen at hn hn'
 generalize hz:rs.length=n at *
 have HZ:Hid (rs.length=n):=hz
 clear hz
 go_enter Try.func32,Try.ntmps32
 go_wp2
 go_loopw [5] (λi wr=>∃k:Nat,k<=n/\i=.int .i64 k/\Hid (allTo (λi=>!badAt (ratA rs i) xs) k)/\Hid (Nx w wr)) (λi _=>n-(intOf i).toNat)
 case atStart=>exact⟨0,Nat.zero_le _,rfl,allTo_zero _,Nx.refl _⟩
 obtain⟨k,hkm,rfl,HA,HN⟩:=hrel
 by_cases hlt:k<n
 case neg=>
  have HF:Hid (false=badS rs xs):=bad_no HZ.out (by omega) HA.out
  go_wp2
  go_ret
  exact⟨ret_bool HF.out,HN.out⟩
 obtain⟨b,off,rfl,_,hb,hc⟩:=hk (by omega)
 obtain⟨sa,sc,c0,c1,c2,hS,hcap⟩:=hc k hlt
 have c1:=cell_next HN.out hb c1
 have c2:=cell_next HN.out hb c2
 have hlt':(k:Int)<n:=by omega
 have HS:Hid (HInts B w (.slice sa (ratA rs k).seq.length sc) (ratA rs k).seq):=hS
 have HBD:Hid (badAt (ratA rs k) xs=(!(ratA rs k).only&&sufB (ratA rs k).seq xs)):=rfl
 clear hc hk c0 hS
 cases g1:(ratA rs k).only
 case true=>
  have HF:Hid ((!badAt (ratA rs k) xs)=true):=by unfold Hid;rw[HBD.out,g1];rfl
  rw[g1] at c1
  clear g1
  go_wp2
  go_roundw
  case rel=>exact⟨k+1,by omega,by go_num,allTo_succ HA.out HF.out,HN⟩
  case measure=>simp[intOf];omega
 rw[g1] at c1 HBD
 clear g1
 go_wp2_with fail
 refine(l2Suffix_any B' B _ _ xs (ratA rs k).seq _ (by exact HX.out.next HN.out) (by exact HS.out.next HN.out)).mono ?_
 rintro e w1 ⟨rfl,hx⟩
 have HN1:Hid (Nx w w1):=HN.out.trans hx
 clear hx c1 c2
 cases g2:sufB (ratA rs k).seq xs
 case true=>
  have HF:Hid (true=badS rs xs):=bad_yes HZ.out hlt (by rw[HBD.out,g2];rfl)
  clear g2
  go_wp2
  go_ret
  exact⟨ret_bool HF.out,HN1.out⟩
 case false=>
  have HF:Hid ((!badAt (ratA rs k) xs)=true):=by unfold Hid;rw[HBD.out,g2];rfl
  clear g2
  go_wp2
  go_roundw
  case rel=>exact⟨k+1,by omega,by go_num,allTo_succ HA.out HF.out,HN1⟩
  case measure=>simp[intOf];omega
theorem iat_take {zs:List Int}{k i:Nat}(h:i<k):iat (zs.take k) i=iat zs i:=by
 simp[iat,List.getD,List.getElem?_take_of_lt h]
theorem HInts.take {B:Nat}{w:World}{a:Option Addr}{n c:Nat}{zs:List Int}(h:HInts B w (.slice a n c) zs){k:Nat}(hk:k<=n)(c':Nat):HInts B w (.slice a k c') (zs.take k):=by
 obtain⟨a0,c0,e,hn,hk'⟩:=h
 simp only[Value.slice.injEq] at e
 obtain⟨rfl,rfl,rfl⟩:=e
 have hl:(zs.take k).length=k:=by rw[List.length_take];omega
 refine⟨_,c',by rw[hl],by rw[hl];omega,λh0=>?_⟩
 rw[hl] at h0
 obtain⟨b,off,rfl,hB,hb,hc⟩:=hk' (by omega)
 refine⟨b,off,rfl,hB,hb,λi hi=>?_⟩
 rw[hl] at hi
 show w.cell? _=_
 rw[iat_take hi]
 exact hc i (by omega)
def joinM (m l:Int):Int:=if m=-1\/m=l then l else -2
def mustAt (x:Ru)(xs:List Int):Bool:=x.only&&sufB (x.seq.take (x.seq.length-1)) xs
def mustTo (rs:List Ru)(xs:List Int):Nat->Int
 |0=>-1
 |k+1=>if mustAt (ratA rs k) xs=true then joinM (mustTo rs xs k) (iat (ratA rs k).seq ((ratA rs k).seq.length-1)) else mustTo rs xs k
def mustS (rs:List Ru)(xs:List Int):Int:=mustTo rs xs rs.length
theorem l3Must_any (B B':Nat)(v v':Value)(rs:List Ru)(xs:List Int)(w:World)(h0:HRules B w v rs)(h1:HInts B' w v' xs)(hg:∀i,i<rs.length->2<=(ratA rs i).seq.length) :
  Calls Try.prog 31 #[v,v'] w λe w'=>e=.returned (.int .i64 (mustS rs xs))/\Nx w w':=by
 have HX:Hid (HInts B' w v' xs):=h1
 have HGD:Hid (∀i,i<rs.length->2<=(ratA rs i).seq.length):=hg
 clear hg
 obtain⟨a,cap,rfl,hn,hk⟩:=h0
 obtain⟨a',cap',rfl,hn',_⟩:=h1
 unfold maxLen at hn hn'
 generalize hz:rs.length=n at *
 have HZ:Hid (rs.length=n):=hz
 clear hz
 go_enter Try.func31,Try.ntmps31
 go_wp2
 go_loopw [5,6,7,8] (λm i _ _ wr=>∃k:Nat,k<=n/\i=.int .i64 k/\m=.int .i64 (mustTo rs xs k)/\Hid (Nx w wr)) (λ_ i _ _ _=>n-(intOf i).toNat)
 case atStart=>exact⟨0,Nat.zero_le _,rfl,rfl,Nx.refl _⟩
 obtain⟨k,hkm,rfl,rfl,HN⟩:=hrel
 by_cases hlt:k<n
 case neg=>
  have ek:n=k:=by omega
  subst ek
  have HF:Hid (mustTo rs xs n=mustS rs xs):=by unfold Hid mustS;rw[HZ.out]
  clear hlt
  go_wp2
  go_ret
  exact⟨ret_int HF.out,HN.out⟩
 obtain⟨b,off,rfl,_,hb,hc⟩:=hk (by omega)
 obtain⟨sa,sc,c0,c1,c2,hS,hcap⟩:=hc k hlt
 have c1:=cell_next HN.out hb c1
 have c2:=cell_next HN.out hb c2
 have hlt':(k:Int)<n:=by omega
 have h2:=HGD.out k hlt
 have HS:Hid (HInts B w (.slice sa (ratA rs k).seq.length sc) (ratA rs k).seq):=hS
 have HMT:Hid (mustTo rs xs (k+1)=if mustAt (ratA rs k) xs=true then joinM (mustTo rs xs k) (iat (ratA rs k).seq ((ratA rs k).seq.length-1)) else mustTo rs xs k):=rfl
 have HMA:Hid (mustAt (ratA rs k) xs=((ratA rs k).only&&sufB ((ratA rs k).seq.take ((ratA rs k).seq.length-1)) xs)):=rfl
 obtain⟨sa',sc',e',hsn,hsk⟩:=hS
 simp only[Value.slice.injEq] at e'
 obtain⟨rfl,_,rfl⟩:=e'
 unfold maxLen at hsn
 generalize ratA rs k=x at *
 generalize hq:x.seq.length=q at *
 clear hq
 obtain⟨p,rfl⟩:∃p,q=p+1:=⟨q-1,by omega⟩
 rw[Nat.add_sub_cancel] at HMT HMA
 obtain⟨b',off',rfl,_,hb',hc'⟩:=hsk (by omega)
 have z0:=cell_next HN.out hb' (hc' p (by omega))
 have w1:IntKind.i64.wrap ((p:Int)+1-1)=(p:Int):=by rw[IntKind.wrap_i64];omega
 have w2:((p:Int)+1-1)=(p:Int):=by omega
 have hp1:(p:Int)<(p:Int)+1:=by omega
 have hp2:(p:Int)<=sc:=by omega
 have wp:=wrapJ p (by omega)
 clear hc hk c0 hc' hsk
 generalize iat x.seq p=l at *
 generalize mustTo rs xs k=m at *
 cases g1:x.only
 case false=>
  have HF:Hid (mustTo rs xs (k+1)=m):=by unfold Hid;rw[HMT.out,HMA.out,g1];rfl
  rw[g1] at c1
  clear g1
  go_wp2
  go_roundw
  case rel=>exact⟨k+1,by omega,by go_num,by rw[HF.out],HN⟩
  case measure=>simp[intOf];omega
 rw[g1] at c1 HMA
 clear g1
 go_wp2_with fail
 refine(l2Suffix_any B' B _ _ xs (x.seq.take p) _ (by exact HX.out.next HN.out) (by exact(HS.out.take (Nat.le_succ _) _).next HN.out)).mono ?_
 rintro e w1 ⟨rfl,hx⟩
 have HN1:Hid (Nx w w1):=HN.out.trans hx
 have c2:=cellq' hx c2
 have z0:=cellq' hx z0
 clear hx c1
 cases g2:sufB (x.seq.take p) xs
 case false=>
  have HF:Hid (mustTo rs xs (k+1)=m):=by unfold Hid;rw[HMT.out,HMA.out,g2];rfl
  clear g2
  go_wp2
  go_roundw
  case rel=>exact⟨k+1,by omega,by go_num,by rw[HF.out],HN1⟩
  case measure=>simp[intOf];omega
 have HF:Hid (mustTo rs xs (k+1)=joinM m l):=by unfold Hid;rw[HMT.out,HMA.out,g2];rfl
 have HJ:Hid (joinM m l=if m=-1\/m=l then l else -2):=rfl
 clear g2 HMT HMA
 by_cases g3:m=-1
 ·have f3:(m==-1)=true:=by simpa using g3
  have HF2:Hid (mustTo rs xs (k+1)=l):=by unfold Hid;rw[HF.out,HJ.out,if_pos (Or.inl g3)]
  clear g3
  go_wp2
  go_roundw
  case rel=>exact⟨k+1,by omega,by go_num,by rw[HF2.out],HN1⟩
  case measure=>simp[intOf];omega
 have f3:(m==-1)=false:=by simpa using g3
 by_cases g4:m=l
 ·have f4:(m==l)=true:=by simpa using g4
  have HF2:Hid (mustTo rs xs (k+1)=l):=by unfold Hid;rw[HF.out,HJ.out,if_pos (Or.inr g4)]
  clear g3 g4
  go_wp2
  go_roundw
  case rel=>exact⟨k+1,by omega,by go_num,by rw[HF2.out],HN1⟩
  case measure=>simp[intOf];omega
 ·have f4:(m==l)=false:=by simpa using g4
  have HF2:Hid (mustTo rs xs (k+1)=-2):=by unfold Hid;rw[HF.out,HJ.out,if_neg (by rintro(h|h);exact g3 h;exact g4 h)]
  clear g3 g4
  go_wp2
  go_roundw
  case rel=>exact⟨k+1,by omega,by go_num,by rw[HF2.out],HN1⟩
  case measure=>simp[intOf];omega
end Go.Proofs.Ytdpfdkihbgmapaa
