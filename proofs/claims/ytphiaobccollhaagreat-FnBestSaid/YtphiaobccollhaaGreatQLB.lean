import Derived.Test.YtphiaobccollhaaGreatQKJ
namespace Go.Proofs.YtphiaobccollhaaGreat
open Go.RowKit Go.Sort Go.Maps
set_option linter.unusedVariables false
set_option maxRecDepth 1000000
set_option maxHeartbeats 16000000
variable {B c i k lo n s:Nat}{w w':World}{a:Option Addr}{x:List Int}{ws:List (List Int)}
def upd {α:Type}(f:Nat->α)(i:Nat)(v:α):Nat->α:=λj=>if j=i then v else f j
theorem Vp {α:Type}(f:Nat->α)(i:Nat)(v:α):upd f i v i=v:=if_pos rfl
theorem Jq {α:Type}(f:Nat->α){j:Nat}(v:α)(h:j≠i):upd f i v j=f j:=if_neg h
structure Lk where
 br:Nat
 bm:Nat
 v0:Value
 v1:Value
 v2:Value
 v3:Value
 wb:Nat->Nat
 eb:Nat->Nat
 vs:Nat->Value
 ts:Nat->Value
 ve:Value
section
variable {C:Nat}{N:Nt}{es:List Eg}{kw me mr ma tk:Nat}{w w':World}{L:Lk}
end
structure LkIn (N:Nt):Prop where
 asc:∀i j,i<j->j<N.ways.length->(wat N.ways i).id<(wat N.ways j).id
 wf:∀i,i<N.ways.length->(Lit.int .i64 (wat N.ways i).id).wf=true
 way:∀e,e<(E1 N).length->∃i:Nat,i<N.ways.length/\(eat (E1 N) e).way=i
 fwd:∀i:Nat,i<N.ways.length->(Zg (E1 N) i (E1 N).length).filter (λe=>!(eat (E1 N) e).back)≠[]
theorem lk_in {N:Nt}(hv:J1 N=true):LkIn N where
 asc:=Ah (λi j=>rfl) (Id hv).ascw
 wf:=λi hi=>by
  simp only[J1,Gx,zG,decide_eq_true_eq] at hv
  obtain⟨_,hu,_,⟨hw,haw⟩,_⟩:=hv
  have:=Jf hw hi
  simp only[Jg,Yn,inB,zG,decide_eq_true_eq] at this
  obtain⟨⟨⟨⟨⟨g0,g1⟩,g2⟩,g3⟩,g4⟩,g5⟩:=this
  exact WalkArith.wf_i64 (by omega)
 way:=λe he=>by
  rw[Ti] at he
  obtain⟨i,j,q,hi,hj,hq,he1⟩:=Kn N.ways.length he
  obtain⟨_,a1⟩:=Yc hi hj hq
  rw[<-he1] at a1
  refine⟨i,hi,?_⟩
  rw[a1]
  split
  ·rfl
  ·split<;>rfl
 fwd:=λi hi=>by
  have h:=(Kx (Uw hv) (Id hv) hi).1
  unfold Zg
  unfold Vv at h
  rw[List.filter_filter]
  intro e
  refine h (Eq.trans ?_ e)
  congr 1
  funext x
  exact Bool.and_comm _ _
theorem Qbo {p:List Int}{z:Int}(h:i<p.length):iat (p++[z]) i=iat p i:=by
 simp[iat,List.getD,List.getElem?_append_left h]
theorem Qdx {p:List Int}{z:Int}(h:i=p.length):iat (p++[z]) i=z:=by
 subst h
 simp[iat,List.getD]
theorem Eo (w:World)(o:Obj)(z:Int):Q5 (w.heap.size+1) ((w.alloc o).alloc (.cells #[iV z] 2)) (sL (sA (w.heap.size+1)) 1 1) [z]:=by
 have:=Ws (w.heap.size+1) (w.alloc o) z (Nat.le_of_eq (Q1 w o).symm)
 rw[Q1] at this
 exact this
theorem Q5.drew {v:Value}{zs:List Int}(h:Q5 B w v zs):Q5 B w.drew v zs:=h
theorem Q5.cell {zs:List Int}(h:Q5 B w (sL a n c) zs)(hi:i<zs.length):∃g,a=some (aD g 0)/\w.cell? (aD g i)=some (iV (iat zs i)):=by
 rcases h.opened with⟨e,h2⟩|⟨g,cap,e,_,_,hr⟩
 ·omega
 ·simp only[zC] at e
  exact⟨g,e.1,hr.cell hi⟩
theorem Blk.below {C:Nat}{b:Nat}{cs:Array Value}(h:Blk w b cs)(k:Below C w w')(hb:b<C):Blk w' b cs:=by
 obtain⟨t,h⟩:=h
 exact⟨t,(k.block b hb).trans h⟩
open Tryz
def Zt:List Int->List Int->Bool
 |x::a,y::b=>if x=y then Zt a b else decide (x<y)
 |_,_=>false
def Vh (a b:List Int):Bool:=if a.length=b.length then Zt a b else decide (a.length<b.length)
theorem Iu (x:Int)(a:List Int)(i:Nat):iat (x::a) (i+1)=iat a i:=by simp[iat,List.getD]
theorem Is (x:Int)(a:List Int):iat (x::a) 0=x:=by simp[iat,List.getD]
theorem Qbb {a b:List Int}(h:Q07 a b k)(ha:k<a.length)(hb:k<b.length)(hk:iat a k≠iat b k):Zt a b=decide (iat a k<iat b k):=by
 induction k generalizing a b with
 |zero=>
  match a,b,ha,hb with
  |x::a,y::b,_,_=>
   rw[Is,Is] at hk ⊢
   rw[Zt,if_neg hk]
 |succ k ih=>
  match a,b,ha,hb with
  |x::a,y::b,ha,hb=>
   have h0:=h 0 (Nat.succ_pos _)
   rw[Is,Is] at h0
   rw[Iu,Iu] at hk ⊢
   rw[Zt,if_pos h0]
   exact ih (λi hi=>by have:=h (i+1) (by omega);rwa [Iu,Iu] at this) (by simpa using ha) (by simpa using hb) hk
theorem Q3v (a:List Int):Zt a a=false:=by
 induction a with
 |nil=>rfl
 |cons x a ih=>rw[Zt,if_pos rfl];exact ih
theorem Io (B B':Nat)(v v':Value)(xs ys:List Int)(w:World)(h0:Qi B w v xs)(h1:Qi B' w v' ys) :
  Calls prog 96 #[v,v'] w λe w'=>e=.returned (.bool (Vh xs ys))/\Nx w w':=by
 obtain⟨a,cap,rfl,hn,hk⟩:=h0
 obtain⟨a',cap',rfl,hn',hk'⟩:=h1
 unfold maxLen at hn hn'
 generalize hz:xs.length=n at *
 have HZ:=mh hz
 clear hz
 generalize hz:ys.length=n' at *
 have HZ':=mh hz
 clear hz
 by_cases hl:n=n'
 case neg=>
  have hd:((n:Int) !=(n':Int))=true:=by simp;omega
  have HF:Z (decide ((n:Int)<(n':Int))=Vh xs ys):=by
   unfold Z Vh
   rw[HZ.o,HZ'.o,if_neg hl]
   simp
  clear hl
  go_enter func96,ntmps96
  go_wp2
  go_ret
  exact⟨Q3 (by first|exact HF.o|(rw[<-HF.o];simp)),Nx.refl _⟩
 subst hl
 have hd:((n:Int) !=(n:Int))=false:=by simp
 have HBD:Z (Vh xs ys=Zt xs ys):=by unfold Z Vh;rw[HZ.o,HZ'.o,if_pos rfl]
 go_enter func96,ntmps96
 go_wp2
 go_loopw [5] (λi wr=>∃k:Nat,k<=n/\i=iV k/\Z (Q07 xs ys k)/\Z (Nx w wr)) (λi _=>n-(intOf i).toNat)
 case atStart=>exact⟨0,nZ,rfl,F8 _ _,Nx.refl _⟩
 obtain⟨k,hkn,rfl,HA,HN⟩:=hrel
 by_cases hlt:k<n
 ·obtain⟨b,off,rfl,hB,hb,hc⟩:=hk (by omega)
  obtain⟨b',off',rfl,hB',hb',hc'⟩:=hk' (by omega)
  have c0:=Q2 HN.o hb (hc k hlt)
  have c1:=Q2 HN.o hb' (hc' k hlt)
  have hlt':(k:Int)<n:=by omega
  clear hc hk hc' hk'
  by_cases he:iat xs k=iat ys k
  ·have he':(iat xs k !=iat ys k)=false:=by simpa using he
   have HA':=mh (F9 HA.o he)
   clear he
   go_wp2
   go_quiet (fail)
   go_wp2
   go_roundw
   case rel=>exact⟨k+1,by omega,by go_num,HA',HN.o.trans ⟨rfl,rfl,rfl,lR,λ_ _=>rfl⟩⟩
   case measure=>simp[intOf];omega
  ·have he':(iat xs k !=iat ys k)=true:=by simpa using he
   have HF:Z (decide (iat xs k<iat ys k)=Vh xs ys):=by
    unfold Z
    rw[HBD.o]
    exact(Qbb HA.o (by rw[HZ.o];exact hlt) (by rw[HZ'.o];exact hlt) he).symm
   clear he
   go_wp2
   go_quiet (fail)
   go_wp2
   go_quiet (fail)
   go_wp2
   go_ret
   exact⟨Q3 HF.o,HN.o.trans ⟨rfl,rfl,rfl,lR,λ_ _=>rfl⟩⟩
 have ek:n=k:=by omega
 subst ek
 have HF:Z (false=Vh xs ys):=by
  unfold Z
  rw[HBD.o,Qcl (a:=xs) (b:=ys) (by rw[HZ.o];exact HA.o) (by rw[HZ.o,HZ'.o]),Q3v]
 clear HA hlt hkn hk hk'
 go_wp2
 go_ret
 exact⟨Q3 HF.o,HN.o⟩
theorem Q9c {y z:List Int}(h1:Zt x y=true)(h2:Zt y z=true):Zt x z=true:=by
 induction x generalizing y z with
 |nil=>simp[Zt] at h1
 |cons a x ih=>
  match y,z with
  |[],_=>simp[Zt] at h1
  |_::_,[]=>simp[Zt] at h2
  |b::y,c::z=>
   simp only[Zt] at h1 h2 ⊢
   by_cases e1:a=b
   ·rw[if_pos e1] at h1
    by_cases e2:b=c
    ·rw[if_pos e2] at h2
     rw[if_pos (by omega)]
     exact ih h1 h2
    ·rw[if_neg e2] at h2
     rw[if_neg (by omega)]
     simp at h2 ⊢
     omega
   ·rw[if_neg e1] at h1
    by_cases e2:b=c
    ·rw[if_neg (by omega)]
     simp at h1 ⊢
     omega
    ·rw[if_neg e2] at h2
     simp at h1 h2
     rw[if_neg (by omega)]
     simp
     omega
theorem Zk {y z:List Int}(h1:Vh x y=true)(h2:Vh y z=true):Vh x z=true:=by
 unfold Vh at *
 by_cases e1:x.length=y.length
 ·rw[if_pos e1] at h1
  by_cases e2:y.length=z.length
  ·rw[if_pos e2] at h2
   rw[if_pos (by omega)]
   exact Q9c h1 h2
  ·rw[if_neg e2] at h2
   rw[if_neg (by omega)]
   simp at h2 ⊢
   omega
 ·rw[if_neg e1] at h1
  by_cases e2:y.length=z.length
  ·rw[if_neg (by omega)]
   simp at h1 ⊢
   omega
  ·rw[if_neg e2] at h2
   simp at h1 h2
   rw[if_neg (by omega)]
   simp
   omega
theorem Vt (x:List Int):Vh x x=false:=by unfold Vh;rw[if_pos rfl,Q3v]
def U1 (ws:List (List Int)):Prop:=∀i j,i<j->j<ws.length->Vh (wd ws i) (wd ws j)=true
def Ui (f:Nat->Bool):Nat->Nat->Int
 |_,0=>-1
 |k,n+1=>if f k then (k:Int) else Ui f (k+1) n
theorem Kw {f:Nat->Bool}(h:0<=Ui f k n):∃a:Nat,Ui f k n=a/\k<=a/\a<k+n/\f a=true:=by
 induction n generalizing k with
 |zero=>simp[Ui] at h
 |succ n ih=>
  unfold Ui at h ⊢
  by_cases e:f k=true
  ·rw[if_pos e];exact⟨k,rfl,lR,by omega,e⟩
  ·rw[if_neg e] at h ⊢
   obtain⟨a,h1,h2,h3,h4⟩:=ih h
   exact⟨a,h1,by omega,by omega,h4⟩
theorem Q65 {f:Nat->Bool}(h:∀a,k<=a->a<k+n->f a=false):Ui f k n=-1:=by
 induction n generalizing k with
 |zero=>rfl
 |succ n ih=>
  unfold Ui
  rw[if_neg (by rw[h k lR (by omega)];simp)]
  exact ih λa h1 h2=>h a (by omega) (by omega)
theorem Wt {f:Nat->Bool}{a:Nat}(h1:k<=a)(h2:a<k+n)(ha:f a=true)(hu:∀b,k<=b->b<a->f b=false):Ui f k n=a:=by
 induction n generalizing k with
 |zero=>omega
 |succ n ih=>
  unfold Ui
  by_cases e:k=a
  ·subst e;rw[if_pos ha]
  ·rw[if_neg (by rw[hu k lR (by omega)];simp)]
   exact ih (by omega) (by omega) λb hb hb'=>hu b (by omega) hb'
def stW (ws:List (List Int))(x:List Int):Int:=Ui (λi=>decide (wd ws i=x)) 0 ws.length
def Wl (ws:List (List Int))(x:List Int)(lo hi:Nat):Prop:=(∀i,i<lo->Vh (wd ws i) x=true)/\∀i,hi<=i->i<ws.length->Vh (wd ws i) x=false
theorem Qat {hi m:Nat}(ha:U1 ws)(h:Wl ws x lo hi)(hm:m<ws.length)(hb:Vh (wd ws m) x=true):Wl ws x (m+1) hi:=
 ⟨λi hi=>by
  rcases Nat.lt_succ_iff_lt_or_eq.1 hi with h1|rfl
  ·exact Zk (ha i m h1 hm) hb
  ·exact hb,h.2⟩
theorem Q5i {hi m:Nat}(ha:U1 ws)(h:Wl ws x lo hi)(hb:Vh (wd ws m) x=false):Wl ws x lo m:=
 ⟨h.1,λi h1 h2=>by
  rcases Nat.lt_or_eq_of_le h1 with h3|rfl
  ·cases e:Vh (wd ws i) x with
   |false=>rfl
   |true=>rw[Zk (ha m i h3 h2) e] at hb;simp at hb
  ·exact hb⟩
theorem Q90 (h:Wl ws x lo lo)(hl:lo<ws.length)(e:wd ws lo=x):(lo:Int)=stW ws x:=by
 symm
 refine Wt nZ (by omega) (by simpa using e) λb _ hb=>?_
 rw[decide_eq_false_iff_not]
 intro e'
 have:=h.1 b hb
 rw[e',Vt] at this
 simp at this
theorem Q3j (ha:U1 ws)(h:Wl ws x lo lo)(e:lo<ws.length->wd ws lo≠x):-1=stW ws x:=by
 symm
 refine Q65 λa _ hl=>?_
 rw[decide_eq_false_iff_not]
 intro e'
 rcases Nat.lt_trichotomy a lo with h1|rfl|h1
 ·have:=h.1 a h1
  rw[e',Vt] at this
  simp at this
 ·exact e (by omega) e'
 ·have h2:=ha lo a h1 (by omega)
  rw[e'] at h2
  have:=h.2 lo lR (by omega)
  rw[h2] at this
  simp at this
theorem Qg4 (lo hi:Nat)(h:lo<hi)(hb:hi<=4611686018427387903):∃m:Nat,((lo:Int)+hi).tdiv 2=(m:Int)/\lo<=m/\m<hi:=by
 refine⟨(lo+hi)/2,?_,by omega,by omega⟩
 rw[Int.tdiv_eq_ediv_of_nonneg (by omega)]
 omega
theorem Fd (B B':Nat)(v v':Value)(ws:List (List Int))(xs:List Int)(w:World)(h0:Jm B w v ws)(h1:Qi B' w v' xs)(ha:U1 ws)(hl:ws.length<=1048576) :
  Calls prog 105 #[v,v'] w λe w'=>(∃lo:Nat,e=.returned (iV lo)/\lo<=ws.length/\Wl ws xs lo lo)/\Nx w w':=by
 have HH:=mh h0
 have HX:=mh h1
 have HA:=mh ha
 obtain⟨a,cap,rfl,hn,hk⟩:=h0
 clear h1 ha
 generalize hz:ws.length=n at *
 have HZ:=mh hz
 clear hz
 go_enter func105,ntmps105
 go_wp2
 go_loopw [5,6,7] (λs5 s6 s7 wr=>∃lo hi:Nat,lo<=hi/\hi<=n/\s5=iV lo/\s6=iV hi/\Z (Wl ws xs lo hi)/\Z (Nx w wr)) (λs5 s6 _ _=>(intOf s6).toNat-(intOf s5).toNat)
 case atStart=>exact⟨0,n,nZ,lR,rfl,rfl,⟨λi hi=>absurd hi (zK _),λi h1 h2=>by rw[HZ.o] at h2;omega⟩,Nx.refl _⟩
 obtain⟨lo,hi,hlh,hhn,rfl,rfl,HP,HN⟩:=hrel
 by_cases hlt:lo<hi
 ·obtain⟨m,hm,hm1,hm2⟩:=Qg4 lo hi hlt (by omega)
  have hlt':(lo:Int)<hi:=by omega
  have hmn:(m:Int)<n:=by omega
  obtain⟨b,off,rfl,hB,hb,hc⟩:=hk (by omega)
  obtain⟨vi,hv1,hv2,_⟩:=hc m (by omega)
  have c0:=Q2 HN.o hb hv1
  have HVI:=mh (hv2.next HN.o)
  have hwm:IntKind.i64.wrap ((lo:Int)+hi)=(lo:Int)+hi:=by rw[IntKind.wrap_i64];omega
  clear hc hk hv1 hv2
  go_wp2_with fail
  refine(Io B B' _ _ _ xs _ HVI.o (HX.o.next HN.o)).mono ?_
  rintro e w1 ⟨rfl,hx⟩
  have HN1:=mh (HN.o.trans hx)
  clear hx HN c0
  cases hbf:Vh (wd ws m) xs
  ·have HP':=mh (Q5i HA.o HP.o hbf)
   clear hbf
   go_wp2
   go_roundw
   case rel=>exact⟨lo,m,hm1,by omega,rfl,rfl,HP',HN1⟩
   case measure=>simp[intOf];omega
  ·have HP':=mh (Qat HA.o HP.o (by rw[HZ.o];omega) hbf)
   clear hbf
   go_wp2
   go_roundw
   case rel=>exact⟨m+1,hi,by omega,hhn,by go_num,rfl,HP',HN1⟩
   case measure=>simp[intOf];omega
 have ek:lo=hi:=by omega
 subst ek
 clear hlt hk
 go_wp2
 go_ret
 exact⟨⟨lo,rfl,hhn,HP.o⟩,HN.o⟩
theorem Pc (B B':Nat)(v v':Value)(ws:List (List Int))(xs:List Int)(w:World)(h0:Jm B w v ws)(h1:Qi B' w v' xs)(ha:U1 ws)(hl:ws.length<=1048576) :
  Calls prog 90 #[v,v'] w λe w'=>e=.returned (iV (stW ws xs))/\Nx w w':=by
 have HH:=mh h0
 have HX:=mh h1
 have HA:=mh ha
 have HL:=mh hl
 obtain⟨a,cap,rfl,hn,hk⟩:=h0
 clear h1 ha
 generalize hz:ws.length=n at *
 have HZ:=mh hz
 clear hz
 go_enter func90,ntmps90
 go_wp2_with fail
 refine(Fd B B' _ _ ws xs _ HH.o HX.o HA.o (by rw[HZ.o];exact HL.o)).mono ?_
 rintro e w1 ⟨⟨lo,rfl,hlo,hp⟩,hx⟩
 rw[HZ.o] at hlo
 have HP:=mh hp
 have HN:=mh hx
 clear hp hx
 by_cases hlt:lo<n
 ·have hlt':(lo:Int)<n:=by omega
  obtain⟨b,off,rfl,hB,hb,hc⟩:=hk (by omega)
  obtain⟨vi,hv1,hv2,_⟩:=hc lo hlt
  have c0:=Q2 HN.o hb hv1
  have HVI:=mh (hv2.next HN.o)
  clear hc hk hv1 hv2
  go_wp2_with fail
  refine(Kp B B' _ _ _ xs _ HVI.o (HX.o.next HN.o)).mono ?_
  rintro e w2 ⟨rfl,hx⟩
  have HN2:=mh (HN.o.trans hx)
  clear hx c0
  by_cases he:wd ws lo=xs
  ·have HF:=mh (Q90 HP.o (by rw[HZ.o];exact hlt) he)
   have hd:decide (wd ws lo=xs)=true:=by simpa using he
   rw[hd]
   clear he hd
   go_wp2
   go_ret
   exact⟨Qu HF.o,HN2.o⟩
  ·have HF:=mh (Q3j HA.o HP.o λ_=>he)
   have hd:decide (wd ws lo=xs)=false:=by simpa using he
   rw[hd]
   clear he hd
   go_wp2
   go_ret
   exact⟨Qu HF.o,HN2.o⟩
 have hlt':¬(lo:Int)<n:=by omega
 have HF:=mh (Q3j HA.o HP.o λh=>by rw[HZ.o] at h;omega)
 clear hlt hk
 go_wp2
 go_ret
 exact⟨Qu HF.o,HN.o⟩
def Zh (ws:List (List Int))(x:List Int):Nat->Nat->Int
 |_,0=>-1
 |k,f+1=>if 0<=stW ws (x.drop k) then stW ws (x.drop k) else Zh ws x (k+1) f
theorem Qbq (x:List Int)(k i:Nat):iat (x.drop k) i=iat x (k+i):=by simp[iat,List.getD]
theorem Qi.drop {c':Nat}{xs:List Int}(h:Qi B w (sL a n c) xs)(hk:k<=n)(a':Option Addr)(ha:∀b off,a=some (aD b off)->0<n-k->a'=some (aD b (off+k))):Qi B w (sL a' (n-k) c') (xs.drop k):=by
 obtain⟨a0,cap,e,hn,hc⟩:=h
 simp only[zC] at e
 obtain⟨rfl,rfl,rfl⟩:=e
 refine⟨a',c',by rw[List.length_drop],by rw[List.length_drop];omega,λh0=>?_⟩
 rw[List.length_drop] at h0
 obtain⟨b,off,rfl,hB,hb,hcc⟩:=hc (by omega)
 refine⟨b,off+k,ha b off rfl h0,hB,hb,λi hi=>?_⟩
 rw[List.length_drop] at hi
 show w.cell? (aD b (off+k+i))=_
 rw[Qbq,Nat.add_assoc]
 exact hcc (k+i) (by omega)
theorem Wf (B B':Nat)(v v':Value)(ws:List (List Int))(xs:List Int)(k0:Nat)(w:World)(h0:Jm B w v ws)(h1:Qi B' w v' xs)(ha:U1 ws)(hl:ws.length<=1048576)(hx:xs.length<=1048576)(hk0:k0<=xs.length+1)(hcp:G6 v') :
  Calls prog 91 #[v,v',iV k0] w λe w'=>e=.returned (iV (Zh ws xs k0 (xs.length+1-k0)))/\Nx w w':=by
 have HH:=mh h0
 have HX:=mh h1
 have HA:=mh ha
 have HL:=mh hl
 obtain⟨a,cap,rfl,hn,hk⟩:=h1
 obtain⟨a',n',c',e,hcp⟩:=hcp
 simp only[zC] at e
 obtain⟨rfl,rfl,rfl⟩:=e
 clear ha h0 hk
 generalize hz:xs.length=n at *
 have HZ:=mh hz
 have HC:=mh hcp
 clear hz hcp
 go_enter func91,ntmps91
 go_wp2
 go_loopw [7,8] (λi z wr=>∃k:Nat,k<=n+1/\i=iV k/\Z (Zh ws xs k0 (n+1-k0)=Zh ws xs k (n+1-k))/\Z (Nx w wr)) (λi _ _=>n+1-(intOf i).toNat)
 case atStart=>exact⟨k0,hk0,rfl,rfl,Nx.refl _⟩
 obtain⟨k,hkn,rfl,HE,HN⟩:=hrel
 by_cases hlt:k<=n
 ·have hlt':(k:Int)<=n:=by omega
  have HE':Z (Zh ws xs k0 (n+1-k0)=if 0<=stW ws (xs.drop k) then stW ws (xs.drop k) else Zh ws xs (k+1) (n+1-(k+1))):=by
   unfold Z
   rw[HE.o,show n+1-k=(n+1-(k+1))+1 by omega,Zh]
  by_cases hck:cap=k
  ·have hnk:n-k=0:=by have:=HC.o;omega
   have HD:Z (Qi B' wr (sL a (n-k) 0) (xs.drop k)):=(HX.o.next HN.o).drop (by omega) a (λb off _ h=>by omega)
   subst hck
   clear hnk
   go_wp2_with fail
   refine(Pc B B' _ _ ws (xs.drop cap) _ (HH.o.next HN.o) HD.o HA.o HL.o).mono ?_
   rintro e w1 ⟨rfl,hx1⟩
   have HN1:=mh (HN.o.trans hx1)
   clear hx1 HN HD
   generalize stW ws (xs.drop cap)=z at *
   by_cases hz:0<=z
   ·have hd:decide (0<=z)=true:=by simpa using hz
    have HF:Z (z=Zh ws xs k0 (n+1-k0)):=by unfold Z;rw[HE'.o,if_pos hz]
    clear hz
    go_wp2
    go_ret
    exact⟨Qu HF.o,HN1.o⟩
   ·have hd:decide (0<=z)=false:=by simpa using hz
    have HF:Z (Zh ws xs k0 (n+1-k0)=Zh ws xs (cap+1) (n+1-(cap+1))):=by unfold Z;rw[HE'.o,if_neg hz]
    clear hz
    go_wp2
    go_roundw
    case rel=>exact⟨cap+1,by omega,by go_num,HF,HN1⟩
    case measure=>simp[intOf];omega
  ·have HD:Z (Qi B' wr (sL (Option.map (λx=>x.add k) a) (n-k) (cap-k)) (xs.drop k)):=(HX.o.next HN.o).drop (by omega) _ (λb off e h=>by rw[e];exact congrArg some (Addr.add_lit _ _ _))
   go_wp2_with fail
   refine(Pc B B' _ _ ws (xs.drop k) _ (HH.o.next HN.o) HD.o HA.o HL.o).mono ?_
   rintro e w1 ⟨rfl,hx1⟩
   have HN1:=mh (HN.o.trans hx1)
   clear hx1 HN HD
   generalize stW ws (xs.drop k)=z at *
   by_cases hz:0<=z
   ·have hd:decide (0<=z)=true:=by simpa using hz
    have HF:Z (z=Zh ws xs k0 (n+1-k0)):=by unfold Z;rw[HE'.o,if_pos hz]
    clear hz
    go_wp2
    go_ret
    exact⟨Qu HF.o,HN1.o⟩
   ·have hd:decide (0<=z)=false:=by simpa using hz
    have HF:Z (Zh ws xs k0 (n+1-k0)=Zh ws xs (k+1) (n+1-(k+1))):=by unfold Z;rw[HE'.o,if_neg hz]
    clear hz
    go_wp2
    go_roundw
    case rel=>exact⟨k+1,by omega,by go_num,HF,HN1⟩
    case measure=>simp[intOf];omega
 have ek:k=n+1:=by omega
 have hlt':¬(k:Int)<=n:=by omega
 have HF:Z (-1=Zh ws xs k0 (n+1-k0)):=by unfold Z;rw[HE.o,ek,Nat.sub_self,Zh]
 clear hlt ek
 go_wp2
 go_ret
 exact⟨Qu HF.o,HN.o⟩
structure Au where
 pa:List Int
 la:List Int
 fa:List Int
 mu:List Int
 bd:List Bool
def bat (bs:List Bool)(i:Nat):Bool:=bs.getD i false
theorem Qgg {zs:List Bool}(h:i<zs.length):bat zs i=zs[i]:=by simp[bat,List.getD,h]
def Pk (B:Nat)(w:World)(v:Value)(bs:List Bool):Prop:=
 Jn B w v bs.length λb off i=>w.cell? (aD b (off+i))=some (.bool (bat bs i))
theorem Pk.keep {v:Value}{bs:List Bool}(h:Pk B w v bs)(k:Ym B w w'):Pk B w' v bs:=
 Jn.mono h lR k.1 λb off hb hs i hi hc=>(k.2 b hb hs _).trans hc
structure HA (B:Nat)(w:World)(v0 v1 v2 v3 v4:Value)(A:Au):Prop where
 h0:Qi B w v0 A.pa
 h1:Qi B w v1 A.la
 h2:Qi B w v2 A.fa
 h3:Qi B w v3 A.mu
 h4:Pk B w v4 A.bd
theorem HA.keep {v0 v1 v2 v3 v4:Value}{A:Au}(h:HA B w v0 v1 v2 v3 v4 A)(k:Ym B w w'):HA B w' v0 v1 v2 v3 v4 A:=⟨h.h0.keep k,h.h1.keep k,h.h2.keep k,h.h3.keep k,h.h4.keep k⟩
theorem HA.next {v0 v1 v2 v3 v4:Value}{A:Au}(h:HA B w v0 v1 v2 v3 v4 A)(k:Nx w w'):HA B w' v0 v1 v2 v3 v4 A:=h.keep (k.keeps B)
def nw (A:Au)(ws:List (List Int))(s:Nat):List Int:=wd ws (iat A.pa s).toNat++[iat A.la s]
def okR (A:Au)(s:Nat):Bool:=decide (0<=iat A.pa s)&&(decide (iat A.pa s<(s:Int))&&(decide (0<=iat A.la s)&&decide (iat A.la s<4000)))
def okW (A:Au)(ws:List (List Int))(s:Nat):Bool:=okR A s&&(decide ((nw A ws s).length<=402)&&Vh (wd ws (s-1)) (nw A ws s))
def okS (A:Au)(ws:List (List Int))(s:Nat):Bool:=if s=0 then (iat A.pa 0==-1)&&(iat A.la 0==-1) else okW A ws s
def Qr (A:Au):Nat->List (List Int)×Bool
 |0=>([],true)
 |s+1=>if ((Qr A s).2&&okS A (Qr A s).1 s)=true then ((Qr A s).1++[if s=0 then [] else nw A (Qr A s).1 s],true) else ((Qr A s).1,false)
theorem Q0g {A:Au}(h:Qr A s=(ws,true))(ho:okS A ws s=true):Qr A (s+1)=(ws++[if s=0 then [] else nw A ws s],true):=by
 rw[Qr,h]
 simp[ho]
theorem Q36 {A:Au}(h:Qr A s=(ws,true))(ho:okS A ws s=false)(d:Nat):Qr A (s+1+d)=(ws,false):=by
 induction d with
 |zero=>rw[Nat.add_zero,Qr,h];simp[ho]
 |succ d ih=>rw[<-Nat.add_assoc,Qr,ih];simp
theorem Jm.at (h:Jm B w (sL a n c) ws)(h0:0<n):∃b off,a=some (aD b off)/\∀i,i<n->∃vi,w.cell? (aD b (off+i))=some vi/\Qi B w vi (wd ws i)/\G6 vi:=by
 obtain⟨a',c',e,_,hk⟩:=h
 simp only[zC] at e
 obtain⟨rfl,rfl,rfl⟩:=e
 obtain⟨b,off,ha,_,_,hc⟩:=hk h0
 exact⟨b,off,ha,hc⟩
theorem Q0e {A:Au}(h:Qr A s=(ws,true)):∀i,(wd ws i).length<=402:=by
 induction s generalizing ws with
 |zero=>
  rw[Qr] at h
  obtain⟨rfl,_⟩:=Prod.mk.inj h
  intro i
  simp[wd]
 |succ s ih=>
  rw[Qr] at h
  split at h
  ·rename_i hc
   simp only[zG] at hc
   have h1:=ih (ws:=(Qr A s).1) (by rw[<-hc.1])
   obtain⟨rfl,_⟩:=Prod.mk.inj h
   intro i
   by_cases e:i<(Qr A s).1.length
   ·rw[Ut e];exact h1 i
   ·by_cases e':i=(Qr A s).1.length
    ·rw[Ea e']
     split
     ·simp
     ·rename_i hs
      have:=hc.2
      unfold okS okW at this
      rw[if_neg hs] at this
      simp only[zG,decide_eq_true_eq] at this
      exact this.2.1
    ·have:wd ((Qr A s).1++[if s=0 then [] else nw A (Qr A s).1 s]) i=[]:=by
      simp[wd,List.getD,List.getElem?_eq_none (show((Qr A s).1++[if s=0 then [] else nw A (Qr A s).1 s]).length<=i by simp;omega)]
     rw[this]
     simp
  ·obtain⟨_,h2⟩:=Prod.mk.inj h
   simp at h2
theorem Q3z (B:Nat)(v0 v1 v2 v3 v4:Value)(A:Au)(w:World)(h0:HA B w v0 v1 v2 v3 v4 A)(hl:A.la.length=A.pa.length)(hn:A.pa.length<=2000) :
  Calls prog 60 #[.agg #[v0,v1,v2,v3,v4]] w λe w'=>(∃v,e=.returned v/\Js w.heap.size w' v (Qr A A.pa.length).1)/\Nx w w':=by
 obtain⟨ii,hi,hz0,hz1,hz2⟩:=info_parts Pf
 obtain⟨⟨a0,c0,rfl,hm0,hk0⟩,⟨a1,c1,rfl,hm1,hk1⟩,h2,h3,h4⟩:=h0
 clear h2 h3 h4 hm0 hm1
 rw[hl] at hk1 ⊢
 generalize hz:A.pa.length=n at *
 clear hl
 clear hz
 have HO1:Z (Js (w.heap.size+1) ((w.alloc (.cells #[sL a0 n c0,sL a1 n c1,v2,v3,v4] 98)).alloc (.cells #[] 143)) (sL (sA (w.heap.size+1)) 0 0) []):=by
  unfold Z
  have:=Gm (w.heap.size+1) (w.alloc (.cells #[sL a0 n c0,sL a1 n c1,v2,v3,v4] 98)) (by simp)
  simpa using this
 go_enter func60,ntmps60
 go_wp2
 go_loopw [3,4,5] (λv i s5 wr=>∃k:Nat,k<=n/\i=iV k/\Z (∃ws,Qr A k=(ws,true)/\ws.length=k/\Js (w.heap.size+1) wr v ws)/\Z (Nx (w.alloc (.cells #[sL a0 n c0,sL a1 n c1,v2,v3,v4] 98)) wr)) (λ_ i _ _=>n-(intOf i).toNat)
 case atStart=>exact⟨0,nZ,rfl,⟨[],rfl,rfl,HO1.o⟩,Qe _ _⟩
 clear HO1
 obtain⟨k,hkn,rfl,HP,HN⟩:=hrel
 have HW:=mh ((Qe _ _).trans HN.o)
 have BA:=(Blk.new w #[sL a0 n c0,sL a1 n c1,v2,v3,v4] 98 _ rfl).next HN.o
 have HBA:=mh BA
 have HZ3:Z (w.heap.size+1<=wr.heap.size):=by have:=HN.o.size;unfold Z;simpa using this
 by_cases hlt:k<n
 ·have hlt':(k:Int)<n:=by omega
  obtain⟨b0,o0,ha0,_,hb0,hc0⟩:=hk0 (by omega)
  obtain⟨b1,o1,ha1,_,hb1,hc1⟩:=hk1 (by omega)
  subst ha0 ha1
  obtain⟨ws,hsp,hwl,hwo⟩:=HP.o
  obtain⟨av,cv,hvs⟩:=hwo.slice
  rw[hwl] at hvs
  subst hvs
  have HWO:=mh hwo
  have HSP:=mh hsp
  have HWL:=mh hwl
  have HLW:=mh (Q0e hsp)
  have x0:=Q2 HW.o hb0 (hc0 k hlt)
  have y0:=Q2 HW.o hb1 (hc1 k hlt)
  have k0:=BA.c 0 rfl
  have k1:=BA.c 1 rfl
  have HRS:Z (okS A ws k=false->Js w.heap.size wr (sL av k cv) (Qr A n).1):=λh=>by
   have:=Q36 HSP.o h (n-(k+1))
   rw[show k+1+(n-(k+1))=n by omega] at this
   rw[this]
   obtain⟨cs,q1,q2⟩:=HWO.o
   refine⟨cs,?_,λi hi=>(q2 i hi).base (Nat.le_succ _)⟩
   obtain⟨r1,r2⟩:=q1
   refine⟨r1,?_⟩
   rcases r2 with r2|⟨g,cap,cur,hv,hg,r⟩
   ·exact oL r2
   ·exact oR ⟨g,cap,cur,hv,by omega,r⟩
  clear hc0 hc1 hk0 hk1 HP hsp hwl hwo BA
  by_cases hk:k=0
  ·subst hk
   rw[Nat.add_zero] at x0 y0
   have hn0:(0:Int)<n:=by omega
   by_cases g1:iat A.pa 0=-1
   ·have f1:(iat A.pa 0 !=-1)=false:=by simpa using g1
    by_cases g2:iat A.la 0=-1
    ·have f2:(iat A.la 0 !=-1)=false:=by simpa using g2
     have HOK:Z (okS A ws 0=true):=by unfold Z okS;simp[g1,g2]
     have HRO:=mh (Vq _ wr HZ3.o)
     have HWO':Z (Js (w.heap.size+1) (wr.alloc (.cells #[] 2)) (sL av 0 cv) ws):=HWO.o.next (Qe _ _)
     clear g1 g2
     obtain⟨cs,q1,q2⟩:=HWO'.o
     have HQ1:=mh q1
     have HQ2:=mh q2
     clear q1 q2
     go_wp2_with (at_builtin;refine wpList_append_own_at _ rfl _ _ 107 rfl (w.heap.size+1) 143 ii (.agg #[sN]) 1 24 underlying107 hi hz0 hz1 hz2 rfl (by decide) _ _ _ rfl (zB HQ1.o _) (aD (wr.heap.size+1) 0) 1 1 [sL (sA wr.heap.size) 0 0] rfl rfl ?c1 ?c2 ?c3 ?c4 ?c5 ?_)
     case c1=>
      intro j u hj
      have:=Qn (wr.alloc (.cells #[] 2)) _ 143 [sL (sA wr.heap.size) 0 0] rfl j u hj
      rwa [Q1] at this
     case c2=>intro u hu;simp at hu;subst hu;rfl
     case c3=>rw[HWL.o];unfold maxLen;omega
     case c4=>rw[HWL.o];omega
     case c5=>have:=HZ3.o;simp;omega
     intro v7 w7 hown hgrow _ _
     have HO7:=mh (Js.snoc HQ1.o HQ2.o HRO.o _ hgrow hown)
     have HS7:Z (Qr A 1=(ws++[[]],true)):=Q0g HSP.o HOK.o
     have HN7:Z (Nx (w.alloc (.cells #[sL (some (aD b0 o0)) n c0,sL (some (aD b1 o1)) n c1,v2,v3,v4] 98)) w7):=Below.grown ((HN.o.alloc _).alloc _) hgrow (by have:=HZ3.o;simp;omega) (λg hg=>by have:=(Q7 HQ1.o g hg).1;simpa using this)
     clear hown hgrow HQ1 HQ2 HRO HWO' x0 y0 k0 k1 HN
     go_wp2
     go_roundw
     case rel=>exact⟨1,by omega,by go_num,⟨_,HS7.o,by rw[zA,HWL.o];rfl,HO7.o⟩,HN7⟩
     case measure=>simp[intOf];omega
    ·have f2:(iat A.la 0 !=-1)=true:=by simpa using g2
     have HF:=mh (HRS.o (by unfold okS;simp;omega))
     clear g1 g2
     go_wp2
     go_ret
     exact⟨⟨_,rfl,HF.o⟩,HW.o⟩
   ·have f1:(iat A.pa 0 !=-1)=true:=by simpa using g1
    have HF:=mh (HRS.o (by unfold okS;simp;omega))
    clear g1
    go_wp2
    go_ret
    exact⟨⟨_,rfl,HF.o⟩,HW.o⟩
  have hkz:((k:Int)==0)=false:=by simp;omega
  have HOD:Z (okS A ws k=okW A ws k):=by unfold Z okS;rw[if_neg hk]
  have HK1:Z (1<=k):=by unfold Z;omega
  clear hk
  by_cases g1:iat A.pa k<0
  ·have f1:decide (iat A.pa k<0)=true:=by simpa using g1
   have HF:=mh (HRS.o (by rw[HOD.o];unfold okW okR;simp;omega))
   clear g1
   go_wp2
   go_ret
   exact⟨⟨_,rfl,HF.o⟩,HW.o⟩
  have f1:decide (iat A.pa k<0)=false:=by simpa using g1
  by_cases g2:(k:Int)<=iat A.pa k
  ·have f2:decide ((k:Int)<=iat A.pa k)=true:=by simpa using g2
   have HF:=mh (HRS.o (by rw[HOD.o];unfold okW okR;simp;omega))
   clear g1 g2
   go_wp2
   go_ret
   exact⟨⟨_,rfl,HF.o⟩,HW.o⟩
  have f2:decide ((k:Int)<=iat A.pa k)=false:=by simpa using g2
  by_cases g3:iat A.la k<0
  ·have f3:decide (iat A.la k<0)=true:=by simpa using g3
   have HF:=mh (HRS.o (by rw[HOD.o];unfold okW okR;simp;omega))
   clear g1 g2 g3
   go_wp2
   go_ret
   exact⟨⟨_,rfl,HF.o⟩,HW.o⟩
  have f3:decide (iat A.la k<0)=false:=by simpa using g3
  by_cases g4:4000<=iat A.la k
  ·have f4:decide (4000<=iat A.la k)=true:=by simpa using g4
   have HF:=mh (HRS.o (by rw[HOD.o];unfold okW okR;simp;omega))
   clear g1 g2 g3 g4
   go_wp2
   go_ret
   exact⟨⟨_,rfl,HF.o⟩,HW.o⟩
  have f4:decide (4000<=iat A.la k)=false:=by simpa using g4
  have HOR:Z (okR A k=true):=by unfold Z okR;simp;omega
  obtain⟨p,hp⟩:∃p:Nat,iat A.pa k=(p:Int):=⟨(iat A.pa k).toNat,by omega⟩
  have hpk:p<k:=by omega
  have hpk':(p:Int)<k:=by omega
  have HNW:Z (nw A ws k=wd ws p++[iat A.la k]):=by unfold Z nw;rw[hp,zU]
  rw[hp] at x0 f1 f2
  clear g1 g2 g3 g4 hp
  obtain⟨gw,ow,hav,hcw⟩:=HWO.o.held.at (by omega)
  subst hav
  obtain⟨vp,hvp1,hvp2,_⟩:=hcw p hpk
  obtain⟨vq,hvq1,hvq2,_⟩:=hcw (k-1) (by omega)
  have HVP:=mh hvp2
  have HVQ:=mh hvq2
  have HLP:=mh (HLW.o p)
  have HVQ1:=mh hvq1
  clear hcw hvp2 hvq2 hvq1
  generalize hla:iat A.la k=lk at *
  have HLA:=mh hla
  clear hla
  have ne1:=World.new_ne wr _ hvp1
  have ne2:=World.new_ne wr _ x0
  have ne3:=World.new_ne wr _ y0
  have ne4:=World.new_ne wr _ k0
  go_upto_region 11 with fail
  go_cut [5] from 7 to 101 (λs5 wc=>Z (Q5 wr.heap.size wc s5 (wd ws p++[lk]))/\Z (Nx wr wc))
  case first=>
   go_region_held3 (λw'=>w'.cell? (aD w.heap.size 0)=some (sL (some (aD b0 o0)) n c0)/\w'.cell? (aD w.heap.size 1)=some (sL (some (aD b1 o1)) n c1)/\w'.cell? (aD b0 (o0+k))=some (iV (p:Int))/\w'.cell? (aD b1 (o1+k))=some (iV lk)/\w'.cell? (aD gw (ow+p))=some vp) (go_keep) (first|(go_at_call 55;refine(Yg (w.heap.size+1) wr.heap.size _ _ (wd ws p) [lk] _ (by first|exact HVP.o.next ((Nx.refl wr).drew.alloc _)|exact HVP.o.next ((Nx.refl wr).alloc _).drew) (by first|exact(Ws wr.heap.size wr.drew lk lR).held|exact(Ws wr.heap.size wr lk lR).drew.held) (by have:=HLP.o;omega) (by simp)).mono ?_;rintro e w1 ⟨⟨u,rfl,hu⟩,hx⟩;have hxw:Nx wr w1:=(by first|exact(((Nx.refl wr).alloc _).drew).trans hx|exact((Nx.refl wr).drew.alloc _).trans hx);have t0:=Q0 hxw k0;have t1:=Q0 hxw k1;have t2:=Q0 hxw x0;have t3:=Q0 hxw y0;have t4:=Q0 hxw hvp1))
   all_goals go_wp2
   all_goals go_meet
   all_goals exact⟨hu.base (Nat.le_of_lt (by simp)),hxw⟩
  case rest=>
  obtain⟨HU,HC⟩:=hcut
  rw[<-HNW.o] at HU
  have HWc:=mh (HW.o.trans HC.o)
  have HNc:=mh (HN.o.trans HC.o)
  have HWOc:=mh (HWO.o.next HC.o)
  have HUc:=mh (HU.o.base HZ3.o)
  have HZc:=mh (zM HZ3.o HC.o.size)
  have HVQc:=mh (HVQ.o.next HC.o)
  have HRSc:Z (okS A ws k=false->Js w.heap.size wc (sL (some (aD gw ow)) k cv) (Qr A n).1):=λh=>(HRS.o h).next HC.o
  have hvq:=Q0 HC.o HVQ1.o
  have HOKW:Z (okW A ws k=(decide ((nw A ws k).length<=402)&&Vh (wd ws (k-1)) (nw A ws k))):=by unfold Z okW;rw[HOR.o,Bool.true_and]
  obtain⟨au,cu,hus⟩:=HUc.o.slice
  subst hus
  generalize hnl:(nw A ws k).length=nl at *
  have HNL:=mh hnl
  clear hnl x0 y0 k0 k1 hvp1 ne1 ne2 ne3 ne4 HVP HVQ HU HWO HRS HN HW HC f1 f2 f3 f4 hpk'
  obtain⟨j,rfl⟩:∃j,k=j+1:=⟨k-1,by have:=HK1.o;omega⟩
  have hwj:=Va j (by omega)
  have hjl:(j:Int)<(j:Int)+1:=by omega
  rw[Nat.add_sub_cancel] at hvq HVQc HOKW
  by_cases g5:nl<=402
  case neg=>
   have f5:decide (402<(nl:Int))=true:=by simp;omega
   have HF:=mh (HRSc.o (by rw[HOD.o,HOKW.o];simp;omega))
   clear g5
   go_wp2
   go_ret
   exact⟨⟨_,rfl,HF.o⟩,HWc.o⟩
  have f5:decide (402<(nl:Int))=false:=by simp;omega
  go_wp2_with fail
  refine(Io (w.heap.size+1) (w.heap.size+1) _ _ (wd ws j) (nw A ws (j+1)) _ HVQc.o HUc.o.held).mono ?_
  rintro e w2 ⟨rfl,hx⟩
  have HC2:=mh hx
  have HW2:=mh (HWc.o.trans hx)
  clear hx hvq
  cases hbf:Vh (wd ws j) (nw A ws (j+1))
  ·have HF:=mh ((HRSc.o (by rw[HOD.o,HOKW.o,hbf];simp)).next HC2.o)
   clear hbf g5
   go_wp2
   go_ret
   exact⟨⟨_,rfl,HF.o⟩,HW2.o⟩
  have HOK:Z (okS A ws (j+1)=true):=by unfold Z;rw[HOD.o,HOKW.o,hbf];simp;omega
  have HWO2:=mh (HWOc.o.next HC2.o)
  have HU2:=mh (HUc.o.next HC2.o)
  have HN2:=mh (HNc.o.trans HC2.o)
  have HZ2:=mh (zM HZc.o HC2.o.size)
  obtain⟨cs,q1,q2⟩:=HWO2.o
  have HQ1:=mh q1
  have HQ2:=mh q2
  clear q1 q2 hbf g5 HRSc HWOc HUc HNc HVQc
  go_wp2_with (at_builtin;refine wpList_append_own_at _ rfl _ _ 107 rfl (w.heap.size+1) 143 ii (.agg #[sN]) 1 24 underlying107 hi hz0 hz1 hz2 rfl (by decide) _ _ _ rfl (zB HQ1.o _) (aD w2.heap.size 0) 1 1 [sL au nl cu] rfl rfl (λj u hj=>Qn w2 _ _ _ rfl j u hj) ?c2 ?c3 ?c4 ?c5 ?_)
  case c2=>intro u hu;simp at hu;subst hu;rfl
  case c3=>rw[HWL.o];unfold maxLen;omega
  case c4=>rw[HWL.o];omega
  case c5=>have:=HZ2.o;simp;omega
  intro v7 w7 hown hgrow _ _
  have HO7:=mh (Js.snoc HQ1.o HQ2.o HU2.o _ hgrow hown)
  have HS7:Z (Qr A (j+1+1)=(ws++[nw A ws (j+1)],true)):=Q0g HSP.o HOK.o
  have HN7:Z (Nx (w.alloc (.cells #[sL (some (aD b0 o0)) n c0,sL (some (aD b1 o1)) n c1,v2,v3,v4] 98)) w7):=Below.grown (HN2.o.alloc _) hgrow (by have:=HZ2.o;simp;omega) (λg hg=>by have:=(Q7 HQ1.o g hg).1;simpa using this)
  clear hown hgrow HQ1 HQ2 HU2 HWO2 HN2
  go_wp2
  go_roundw
  case rel=>exact⟨j+1+1,by omega,by go_num,⟨_,HS7.o,by rw[zA,HWL.o];rfl,HO7.o⟩,HN7⟩
  case measure=>simp[intOf];omega
 have ek:n=k:=by omega
 subst ek
 have k0:=BA.c 0 rfl
 have HF:Z (Js w.heap.size wr u3 (Qr A n).1):=by
  obtain⟨ws,hsp,hwl,hwo⟩:=HP.o
  unfold Z
  rw[hsp]
  obtain⟨cs,q1,q2⟩:=hwo
  refine⟨cs,?_,λi hi=>(q2 i hi).base (Nat.le_succ _)⟩
  obtain⟨r1,r2⟩:=q1
  refine⟨r1,?_⟩
  rcases r2 with r2|⟨g,cap,cur,hv,hg,r⟩
  ·exact oL r2
  ·exact oR ⟨g,cap,cur,hv,by omega,r⟩
 clear HP BA hlt hkn
 go_wp2
 go_ret
 exact⟨⟨_,rfl,HF.o⟩,HW.o⟩
theorem Gi {A:Au}:((Qr A s).2=true->(Qr A s).1.length=s)/\((Qr A s).2=false->(Qr A s).1.length<s):=by
 induction s with
 |zero=>exact⟨λ_=>rfl,λh=>by simp[Qr] at h⟩
 |succ s ih=>
  rw[Qr]
  split
  ·rename_i hc
   simp only[zG] at hc
   exact⟨λ_=>by rw[zA,ih.1 hc.1];rfl,λh=>by simp at h⟩
  ·refine⟨λh=>by simp at h,λ_=>?_⟩
   show(Qr A s).1.length<s+1
   cases e:(Qr A s).2 with
   |true=>rw[ih.1 e];omega
   |false=>have:=ih.2 e;omega
theorem Q8p {A:Au}(h:Qr A s=(ws,true)):U1 ws:=by
 induction s generalizing ws with
 |zero=>
  rw[Qr] at h
  obtain⟨rfl,_⟩:=Prod.mk.inj h
  intro i j _ hj
  simp at hj
 |succ s ih=>
  rw[Qr] at h
  split at h
  ·rename_i hc
   simp only[zG] at hc
   have h1:=ih (ws:=(Qr A s).1) (by rw[<-hc.1])
   have hl:=Gi.1 hc.1
   obtain⟨rfl,_⟩:=Prod.mk.inj h
   intro i j hij hj
   rw[zA,List.length_singleton,hl] at hj
   by_cases e:j<s
   ·rw[Ut (by omega),Ut (by omega)]
    exact h1 i j hij (by omega)
   ·have ej:j=s:=by omega
    subst ej
    rw[Ut (i:=i) (by omega),Ea (i:=j) (by omega),if_neg (by omega)]
    have hb:=hc.2
    unfold okS okW at hb
    rw[if_neg (by omega)] at hb
    simp only[zG] at hb
    rcases Nat.lt_or_eq_of_le (show i<=j-1 by omega) with h2|h2
    ·exact Zk (h1 i (j-1) h2 (by omega)) hb.2.2
    ·rw[h2];exact hb.2.2
  ·obtain⟨_,h2⟩:=Prod.mk.inj h
   simp at h2
def Gs (A:Au):Bool:=decide (1<=A.pa.length)&&(decide (A.pa.length<=2000)&&((A.la.length==A.pa.length)&&((A.fa.length==A.pa.length)&&((A.mu.length==A.pa.length)&&(A.bd.length==A.pa.length)))))
def Qfn (A:Au)(ws:List (List Int))(s:Nat):Bool:=s==0||(decide (-2<=iat A.mu s)&&(decide (iat A.mu s<4000)&&(iat A.fa s==Zh ws (wd ws s) 1 ((wd ws s).length+1-1))))
def Wb (A:Au):Bool:=Gs A&&((Qr A A.pa.length).2&&((iat A.fa 0==-1)&&((iat A.mu 0==-1)&&((!bat A.bd 0)&&Qo A.pa.length (Qfn A (Qr A A.pa.length).1)))))
theorem Q7j (h0:0<=stW ws []){f:Nat}(hf:k+f=x.length+1)(h1:1<=f):0<=Zh ws x k f/\Zh ws x k f<ws.length:=by
 induction f generalizing k with
 |zero=>omega
 |succ f ih=>
  rw[Zh]
  split
  ·rename_i h
   obtain⟨a,e,_,ha,_⟩:=Kw h
   unfold stW
   rw[e]
   omega
  ·rename_i h
   by_cases e:f=0
   ·subst e
    have hk:k=x.length:=by omega
    rw[hk,List.drop_length] at h
    exact absurd h0 h
   ·exact ih (by omega) (by omega)
def T6 (ws:List (List Int))(s:Nat)(e:Int):Int:=Zh ws (wd ws s++[e]) 0 ((wd ws s++[e]).length+1-0)
def Q4 (A:Au)(ws:List (List Int))(s e:Int):Int:=
 if s<0\/(ws.length:Int)<=s\/e<0\/4000<=e then -1
 else if bat A.bd s.toNat=true\/(iat A.mu s.toNat≠-1/\iat A.mu s.toNat≠e) then -1
 else if bat A.bd (T6 ws s.toNat e).toNat=true then -1 else T6 ws s.toNat e
structure Qey (A:Au)(ws:List (List Int))(n:Nat):Prop where
 l:ws.length=n
 m:A.mu.length=n
 b:A.bd.length=n
 n:n<=2000
 asc:U1 ws
 len:∀i,(wd ws i).length<=402
 e:0<=stW ws []
theorem Qi.cellAt {xs:List Int}(h:Qi B w (sL a n c) xs)(k:Nx w w')(hi:i<n):∃b off,a=some (aD b off)/\w'.cell? (aD b (off+i))=some (iV (iat xs i)):=by
 obtain⟨a',c',e,_,hk⟩:=h
 simp only[zC] at e
 obtain⟨rfl,rfl,rfl⟩:=e
 obtain⟨b,off,ha,_,hb,hc⟩:=hk (by omega)
 exact⟨b,off,ha,Q2 k hb (hc i hi)⟩
theorem Pk.rowAt {xs:List Bool}(h:Pk B w (sL a n c) xs)(h0:0<n):∃b off,a=some (aD b off)/\b<w.heap.size/\∀i,i<n->w.cell? (aD b (off+i))=some (.bool (bat xs i)):=by
 obtain⟨a',c',e,_,hk⟩:=h
 simp only[zC] at e
 obtain⟨rfl,rfl,rfl⟩:=e
 obtain⟨b,off,ha,_,hb,hc⟩:=hk h0
 exact⟨b,off,ha,hb,hc⟩
theorem Ko (B Bw:Nat)(v0 v1 v2:Value)(a3 a4 aw:Option Addr)(n c3 c4 cw:Nat)(A:Au)(ws:List (List Int))(s e:Int)(w:World)(h0:HA B w v0 v1 v2 (sL a3 n c3) (sL a4 n c4) A)(hw:Jm Bw w (sL aw n cw) ws)(hW:Qey A ws n) :
  Calls prog 65 #[.agg #[v0,v1,v2,sL a3 n c3,sL a4 n c4],sL aw n cw,iV s,iV e] w λr w'=>r=.returned (iV (Q4 A ws s e))/\Nx w w':=by
 have HWD:=mh hw
 have HWS:=mh hW
 have HD:Z (Q4 A ws s e=if s<0\/(n:Int)<=s\/e<0\/4000<=e then -1 else if bat A.bd s.toNat=true\/(iat A.mu s.toNat≠-1/\iat A.mu s.toNat≠e) then -1 else if bat A.bd (T6 ws s.toNat e).toNat=true then -1 else T6 ws s.toNat e):=by unfold Z Q4;rw[hW.l]
 have hn:=hW.n
 have h3:=h0.h3
 have h4:=h0.h4
 clear h0 hW
 by_cases g1:s<0
 ·have f1:decide (s<0)=true:=by simpa using g1
  have HF:Z (-1=Q4 A ws s e):=by unfold Z;rw[HD.o,if_pos (oL g1)]
  clear g1
  go_enter func65,ntmps65
  go_wp2
  go_ret
  exact⟨Qu HF.o,Qe _ _⟩
 have f1:decide (s<0)=false:=by simpa using g1
 by_cases g2:(n:Int)<=s
 ·have f2:decide ((n:Int)<=s)=true:=by simpa using g2
  have HF:Z (-1=Q4 A ws s e):=by unfold Z;rw[HD.o,if_pos (oR (oL g2))]
  clear g1 g2
  go_enter func65,ntmps65
  go_wp2
  go_ret
  exact⟨Qu HF.o,Qe _ _⟩
 have f2:decide ((n:Int)<=s)=false:=by simpa using g2
 by_cases g3:e<0
 ·have f3:decide (e<0)=true:=by simpa using g3
  have HF:Z (-1=Q4 A ws s e):=by unfold Z;rw[HD.o,if_pos (oR (oR (oL g3)))]
  clear g1 g2 g3
  go_enter func65,ntmps65
  go_wp2
  go_ret
  exact⟨Qu HF.o,Qe _ _⟩
 have f3:decide (e<0)=false:=by simpa using g3
 by_cases g4:4000<=e
 ·have f4:decide (4000<=e)=true:=by simpa using g4
  have HF:Z (-1=Q4 A ws s e):=by unfold Z;rw[HD.o,if_pos (oR (oR (oR g4)))]
  clear g1 g2 g3 g4
  go_enter func65,ntmps65
  go_wp2
  go_ret
  exact⟨Qu HF.o,Qe _ _⟩
 have f4:decide (4000<=e)=false:=by simpa using g4
 obtain⟨k,rfl⟩:∃k:Nat,s=(k:Int):=⟨s.toNat,by omega⟩
 have hkn:k<n:=by omega
 have hkn':(k:Int)<n:=by omega
 have HD2:Z (Q4 A ws k e=if bat A.bd k=true\/(iat A.mu k≠-1/\iat A.mu k≠e) then -1 else if bat A.bd (T6 ws k e).toNat=true then -1 else T6 ws k e):=by
  unfold Z
  rw[HD.o,if_neg (by omega),zU]
 clear g1 g2 g3 g4 HD
 obtain⟨b3,o3,ha3,y3⟩:=h3.cellAt (Nx.refl w) hkn
 obtain⟨b4,o4,ha4,hb4,hc4⟩:=h4.rowAt (by omega)
 subst ha3 ha4
 have HC4:=mh hc4
 have x3:=Lib.cell?_alloc_some (.cells #[v0,v1,v2,sL (some (aD b3 o3)) n c3,sL (some (aD b4 o4)) n c4] 98) y3
 have x4:=Lib.cell?_alloc_some (.cells #[v0,v1,v2,sL (some (aD b3 o3)) n c3,sL (some (aD b4 o4)) n c4] 98) (hc4 k hkn)
 clear hc4 h3 h4 y3
 cases g5:bat A.bd k
 case true=>
  have HF:Z (-1=Q4 A ws k e):=by unfold Z;rw[HD2.o,if_pos (oL g5)]
  rw[g5] at x4
  clear g5
  go_enter func65,ntmps65
  go_wp2
  go_ret
  exact⟨Qu HF.o,Qe _ _⟩
 rw[g5] at x4
 by_cases g6:iat A.mu k=-1\/iat A.mu k=e
 case neg=>
  have f6:(iat A.mu k !=-1)=true:=by simp;omega
  have f7:(iat A.mu k !=e)=true:=by simp;omega
  have HF:Z (-1=Q4 A ws k e):=by unfold Z;rw[HD2.o,if_pos (oR (by omega))]
  clear g5 g6
  go_enter func65,ntmps65
  go_wp2
  go_ret
  exact⟨Qu HF.o,Qe _ _⟩
 have HD3:Z (Q4 A ws k e=if bat A.bd (T6 ws k e).toNat=true then -1 else T6 ws k e):=by
  unfold Z
  rw[HD2.o,if_neg (by rw[g5];simp;omega)]
 have HLB:Z (0<=T6 ws k e/\T6 ws k e<n):=by
  have:=Q7j (ws:=ws) (x:=wd ws k++[e]) HWS.o.e (k:=0) (f:=(wd ws k++[e]).length+1-0) (by omega) (by omega)
  rw[HWS.o.l] at this
  exact this
 have HLD:Z (T6 ws k e=Zh ws (wd ws k++[e]) 0 ((wd ws k++[e]).length+1-0)):=rfl
 have W0:Z (∀o:Obj,Nx w (w.alloc o)):=λo=>Qe w o
 obtain⟨gw,ow,hav,hcw⟩:=HWD.o.at (by omega)
 subst hav
 obtain⟨vi,hv1,hv2,_⟩:=hcw k hkn
 have HV1:=mh hv1
 have HV2:=mh hv2
 have z1:=Lib.cell?_alloc_some (.cells #[v0,v1,v2,sL (some (aD b3 o3)) n c3,sL (some (aD b4 o4)) n c4] 98) hv1
 have HBX:Z (Blk (w.alloc (.cells #[v0,v1,v2,sL (some (aD b3 o3)) n c3,sL (some (aD b4 o4)) n c4] 98)) w.heap.size #[v0,v1,v2,sL (some (aD b3 o3)) n c3,sL (some (aD b4 o4)) n c4]):=Blk.new w _ 98 _ rfl
 clear hcw hv1 hv2 HD2 g5
 have ht:∃t1 t2:Bool,(iat A.mu k !=-1)=t1/\(iat A.mu k !=e)=t2/\(t1&&t2)=false:=⟨_,_,rfl,rfl,by simp;omega⟩
 obtain⟨t1,t2,f6,f7,f8⟩:=ht
 clear g6
 go_enter func65,ntmps65
 cases t1
 ·go_wp2_with fail
  refine(Yg Bw (w.heap.size+1) _ _ (wd ws k) [e] _ (by exact HV2.o.next (Uk _ _ _)) (by exact(Eo w _ e).held) (by have:=HWS.o.len k;omega) (by simp)).mono ?_
  rintro r w1 ⟨⟨u,rfl,hu⟩,hx⟩
  have HN1:=mh ((Uk _ _ _).trans hx)
  have HB1:=(HBX.o.alloc (.cells #[iV e] 2)).next hx
  have HU1:Z (Q5 (w.heap.size+2) w1 u (wd ws k++[e])):=by unfold Z;simpa using hu
  clear hx hu x3 x4 z1
  go_wp2_with fail
  refine(Wf Bw (w.heap.size+2) _ _ ws (wd ws k++[e]) 0 _ (by exact HWD.o.next HN1.o) (by exact HU1.o.held) HWS.o.asc (by rw[HWS.o.l];omega) (by have:=HWS.o.len k;simp;omega) (by omega) HU1.o.capOk).mono ?_
  rintro r w2 ⟨rfl,hx⟩
  rw[<-HLD.o]
  obtain⟨z,hz⟩:∃z:Nat,T6 ws k e=(z:Int):=⟨(T6 ws k e).toNat,by have:=HLB.o.1;omega⟩
  have hzn:z<n:=by have:=HLB.o.2;omega
  have hzn':(z:Int)<n:=by omega
  have HN2:=mh (HN1.o.trans hx)
  have HB2:=HB1.next hx
  have k4:=HB2.c 4 rfl
  have x4:=Q2 HN2.o hb4 (HC4.o z hzn)
  rw[hz] at HD3 ⊢
  rw[zU] at HD3
  clear hx hz HB1 HB2
  cases g9:bat A.bd z
  ·have HF:Z ((z:Int)=Q4 A ws k e):=by unfold Z;rw[HD3.o,if_neg (by rw[g9];simp)]
   rw[g9] at x4
   clear g9
   go_wp2
   go_ret
   exact⟨Qu HF.o,HN2.o⟩
  ·have HF:Z (-1=Q4 A ws k e):=by unfold Z;rw[HD3.o,if_pos g9]
   rw[g9] at x4
   clear g9
   go_wp2
   go_ret
   exact⟨Qu HF.o,HN2.o⟩
 ·cases t2
  ·go_wp2_with fail
   refine(Yg Bw (w.heap.size+1) _ _ (wd ws k) [e] _ (by exact HV2.o.next (Uk _ _ _)) (by exact(Eo w _ e).held) (by have:=HWS.o.len k;omega) (by simp)).mono ?_
   rintro r w1 ⟨⟨u,rfl,hu⟩,hx⟩
   have HN1:=mh ((Uk _ _ _).trans hx)
   have HB1:=(HBX.o.alloc (.cells #[iV e] 2)).next hx
   have HU1:Z (Q5 (w.heap.size+2) w1 u (wd ws k++[e])):=by unfold Z;simpa using hu
   clear hx hu x3 x4 z1
   go_wp2_with fail
   refine(Wf Bw (w.heap.size+2) _ _ ws (wd ws k++[e]) 0 _ (by exact HWD.o.next HN1.o) (by exact HU1.o.held) HWS.o.asc (by rw[HWS.o.l];omega) (by have:=HWS.o.len k;simp;omega) (by omega) HU1.o.capOk).mono ?_
   rintro r w2 ⟨rfl,hx⟩
   rw[<-HLD.o]
   obtain⟨z,hz⟩:∃z:Nat,T6 ws k e=(z:Int):=⟨(T6 ws k e).toNat,by have:=HLB.o.1;omega⟩
   have hzn:z<n:=by have:=HLB.o.2;omega
   have hzn':(z:Int)<n:=by omega
   have HN2:=mh (HN1.o.trans hx)
   have HB2:=HB1.next hx
   have k4:=HB2.c 4 rfl
   have x4:=Q2 HN2.o hb4 (HC4.o z hzn)
   rw[hz] at HD3 ⊢
   rw[zU] at HD3
   clear hx hz HB1 HB2
   cases g9:bat A.bd z
   ·have HF:Z ((z:Int)=Q4 A ws k e):=by unfold Z;rw[HD3.o,if_neg (by rw[g9];simp)]
    rw[g9] at x4
    clear g9
    go_wp2
    go_ret
    exact⟨Qu HF.o,HN2.o⟩
   ·have HF:Z (-1=Q4 A ws k e):=by unfold Z;rw[HD3.o,if_pos g9]
    rw[g9] at x4
    clear g9
    go_wp2
    go_ret
    exact⟨Qu HF.o,HN2.o⟩
  ·simp at f8
end Go.Proofs.YtphiaobccollhaaGreat
