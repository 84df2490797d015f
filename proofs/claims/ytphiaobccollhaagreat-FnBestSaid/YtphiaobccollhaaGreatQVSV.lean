import Derived.Test.YtphiaobccollhaaGreatQVGA
namespace Go.Proofs.YtphiaobccollhaaGreat
open Go.RowKit
set_option linter.unusedVariables false
set_option maxRecDepth 1000000
set_option maxHeartbeats 16000000
variable {G:Gr}{C n v:Nat}{w:World}{X Y:Nat->Int}{P:List Int}
structure VG (G:Gr):Prop where
 e:G.sr.length<=4000
 v:G.eo.length<=6000
 t:G.tt.length<=40000
 lw:G.we.length=G.sr.length
 ls:G.so.length=G.eo.length
 lf:G.fi.length=G.eo.length+1
 lc:G.co.length=G.tt.length
 we:∀i,i<G.sr.length->0<=iat G.we i/\iat G.we i<=1048576
 eo:∀i,i<G.eo.length->0<=iat G.eo i/\iat G.eo i<G.sr.length
 sr:∀i,i<G.sr.length->0<=iat G.sr i/\iat G.sr i<G.eo.length/\iat G.eo (iat G.sr i).toNat=i
 fi:∀i,i<=G.eo.length->0<=iat G.fi i/\iat G.fi i<=G.tt.length
 fm:∀i,i<G.eo.length->iat G.fi i<=iat G.fi (i+1)
 tt:∀k,k<G.tt.length->0<=iat G.tt k/\iat G.tt k<G.eo.length
 co:∀k,k<G.tt.length->0<=iat G.co k/\iat G.co k<=3145728
 asc:∀i,i<G.eo.length->∀k:Nat,iat G.fi i<k->k<iat G.fi (i+1)->Us G (k-1)<Us G k
 pr:∀i,i+1<G.eo.length->We G i (i+1)=true
theorem Q0c (h:Qq G=true):VG G:=by
 unfold Qq at h
 simp only[zG] at h
 obtain⟨h1,h2,h3,h4,h5,h6,h7,h8,h9⟩:=h
 have h5':=h5
 simp only[Ag,Ph,Kz,zG,decide_eq_true_eq,beq_iff_eq] at h1 h5 h7
 obtain⟨⟨⟨q1,q2⟩,q3⟩,q4⟩:=h1
 refine⟨q1,q3,h7.2,q2,q4,h5.1.1,h7.1,λi hi=>?_,λi hi=>?_,λi hi=>?_,λi hi=>Qby rfl rfl h5' h6 hi,λi hi=>?_,λk hk=>Qa4 rfl h8 hk,λk hk=>?_,λi hi k k1 k2=>?_,λi hi=>?_⟩
 ·have:=Jf h2 (i:=i) (by omega)
  simp only[wOk,inB,decide_eq_true_eq] at this
  exact this
 ·have:=Jf h3 hi
  simp only[vOk,zG,decide_eq_true_eq] at this
  omega
 ·have:=Jf h4 hi
  simp only[sOk,zG,decide_eq_true_eq,beq_iff_eq] at this
  exact⟨this.1.1,this.1.2,this.2⟩
 ·have:=Jf h6 hi
  simp only[fOk,decide_eq_true_eq] at this
  exact this
 ·have:=Jf h8 hk
  simp only[tOk,zG,decide_eq_true_eq] at this
  omega
 ·have:=Jf h9 hi
  unfold oOk at this
  have:=Jf this (i:=k) (by omega)
  simp only[oAt,Bool.or_eq_true,decide_eq_true_eq] at this
  omega
 ·have:=Jf h3 hi
  simp only[vOk,zG,Bool.or_eq_true,beq_iff_eq,decide_eq_true_eq] at this
  rcases this.2 with h|h
  ·omega
  ·simpa using h
def fst (G:Gr)(v:Nat):Nat:=(iat G.fi v).toNat
theorem Jr (h:VG G)(hv:v<=G.eo.length):iat G.fi v=(fst G v:Int)/\fst G v<=G.tt.length:=by
 have:=h.fi v hv
 unfold fst
 omega
theorem Ku (h:VG G)(hv:v<G.eo.length):fst G v<=fst G (v+1):=by
 have h1:=(Jr h (v:=v) (by omega)).1
 have h2:=(Jr h (v:=v+1) (by omega)).1
 have:=h.fm v hv
 omega
open Tryz
theorem infoV:(prog.info? 68).map (λi=>(i.zero,i.size,i.bytes))=some (some (.agg #[iV 0,iV 0]),2,16):=by kernel_rfl
def Ub (X Y:Nat->Int):Nat->List Value
 |0=>[]
 |n+1=>Ub X Y n++[iV (X n),iV (Y n)]
theorem Q51 (X Y:Nat->Int)(n:Nat):(Ub X Y n).length=n*2:=by
 induction n with
 |zero=>rfl
 |succ n ih=>simp[Ub,ih];omega
theorem Q8e (X Y:Nat->Int){i:Nat}(h:i<n):(Ub X Y n)[i*2]?=some (iV (X i))/\(Ub X Y n)[i*2+1]?=some (iV (Y i)):=by
 induction n with
 |zero=>omega
 |succ n ih=>
  have hl:=Q51 X Y n
  unfold Ub
  by_cases e:i<n
  ·rw[zT (by omega),zT (by omega)]
   exact ih e
  ·have e':i=n:=by omega
   subst e'
   rw[yA (by omega),yA (by omega),hl]
   simp
def Kj (C:Nat)(w:World)(v:Value)(X Y:Nat->Int)(n:Nat):Prop:=w.ownsRow C 68 2 v n (Ub X Y n)
theorem Kj.held {v:Value}(h:Kj C w v X Y n):HVsV C w v n X Y:=by
 rcases h.2 with⟨rfl,h3⟩|⟨g,cap,cur,rfl,hg,hh,hc,hm,hs,ht⟩
 ·subst h3
  exact⟨none,0,rfl,nZ,λh0=>absurd h0 (yE _)⟩
 ·refine⟨_,_,rfl,by omega,λh0=>⟨g,0,rfl,hg,(Array.getElem?_eq_some_iff.1 hh).1,λi hi=>?_⟩⟩
  have e:=Q8e X Y hi
  have f:∀q,q<n*2->cur[q]?=(Ub X Y n)[q]?:=λq hq=>by
   have e2:(cur.toList.take (n*2))[q]?=(Ub X Y n)[q]?:=by rw[ht]
   rw[zQ hq] at e2
   rw[<-zN,e2]
  refine⟨?_,?_⟩
  ·show w.cell? (aD g (0+i*2))=_
   simp[World.cell?,hh,f (i*2) (by omega),e.1]
  ·show w.cell? (aD g (0+i*2+1))=_
   simp[World.cell?,hh,f (i*2+1) (by omega),e.2]
theorem Kj.slice {v:Value}(h:Kj C w v X Y n):∃a c,v=sL a n c:=by
 rcases h.2 with⟨rfl,h2⟩|⟨g,cap,cur,rfl,_⟩
 ·exact⟨none,0,by rw[h2]⟩
 ·exact⟨_,_,rfl⟩
theorem Kj.lt {v:Value}(h:Kj C w v X Y n):∀g,v.ownBlock=some g->C<=g/\g<w.heap.size:=by
 intro g hg
 rcases h.2 with⟨rfl,_⟩|⟨g',cap,cur,rfl,hb,hh,_⟩
 ·simp[Value.ownBlock] at hg
 ·simp[Value.ownBlock] at hg;subst hg;exact⟨hb,(Array.getElem?_eq_some_iff.1 hh).1⟩
theorem Q8q (w:World)(o:Obj):(w.alloc o).heap.size=w.heap.size+1:=Array.size_push _
theorem Blk.lower {w':World}{b:Nat}{cs:Array Value}(h:Blk w b cs)(k:Below C w w')(hb:b<C):Blk w' b cs:=by
 obtain⟨t,h⟩:=h
 exact⟨t,(k.block b hb).trans h⟩
theorem Qav (C:Nat)(w:World)(X Y:Nat->Int):Kj C w sN X Y 0:=⟨rfl,.inl ⟨rfl,rfl⟩⟩
def rOk (G:Gr)(i:Nat):Bool:=inZ (iat G.eo i) G.sr.length&&inZ (iat G.so i) 2000
def vVe (G:Gr):Bool:=decide (G.eo.length<=6000)&&((G.so.length==G.eo.length)&&(Qo G.eo.length (rOk G)&&Tg G.eo.length (Eu (iat G.eo) (iat G.so))))
theorem I5 (B:Nat)(v0 v1 v2 v3 v4 v5 v6:Value)(G:Gr)(w:World)(h0:HG B w v0 v1 v2 v3 v4 v5 v6 G) :
  Calls prog 23 #[.agg #[v0,v1,v2,v3,v4,v5,v6]] w λe w'=>e=.returned (.bool (vVe G))/\Nx w w':=by
 obtain⟨ii,hi,hz0,hz1,hz2⟩:=info_parts infoV
 have HH:=mh h0
 obtain⟨⟨a0,c0,rfl,hn0,hk0⟩,⟨a1,c1,rfl,hn1,hk1⟩,⟨a2,c2,rfl,hn2,hk2⟩,⟨a3,c3,rfl,hn3,hk3⟩,⟨a4,c4,rfl,hn4,hk4⟩,⟨a5,c5,rfl,hn5,hk5⟩,⟨a6,c6,rfl,hn6,hk6⟩⟩:=h0
 have HM0:=mh hn0
 have HM5:=mh hn5
 unfold maxLen at hn0 hn1 hn2 hn3 hn4 hn5 hn6
 generalize hz0:G.eo.length=n0 at *
 have Z0:=mh hz0
 clear hz0
 generalize hz1:G.so.length=n1 at *
 have Z1:=mh hz1
 clear hz1
 generalize hz2:G.fi.length=n2 at *
 have Z2:=mh hz2
 clear hz2
 generalize hz3:G.tt.length=n3 at *
 have Z3:=mh hz3
 clear hz3
 generalize hz4:G.co.length=n4 at *
 have Z4:=mh hz4
 clear hz4
 generalize hz5:G.sr.length=n5 at *
 have Z5:=mh hz5
 clear hz5
 generalize hz6:G.we.length=n6 at *
 have Z6:=mh hz6
 clear hz6
 by_cases e1:n0<=6000
 case neg=>
  have d1:decide (6000<(n0:Int))=true:=by simp;omega
  have HF:Z (false=vVe G):=by unfold Z vVe;rw[Z0.o,Z1.o];simp[e1]
  go_enter func23,ntmps23
  go_wp2
  go_ret
  exact⟨Q3 HF.o,Qe _ _⟩
 have d1:decide (6000<(n0:Int))=false:=by simp;omega
 by_cases e2:n0=n1
 case neg=>
  have d2:((n1:Int) !=(n0:Int))=true:=by simp;omega
  have HF:Z (false=vVe G):=by unfold Z vVe;rw[Z0.o,Z1.o];simp[Ne.symm e2]
  go_enter func23,ntmps23
  go_wp2
  go_ret
  exact⟨Q3 HF.o,Qe _ _⟩
 subst e2
 have d2:((n0:Int) !=(n0:Int))=false:=by simp
 have HG1:Z (vVe G=(Qo n0 (rOk G)&&Tg n0 (Eu (iat G.eo) (iat G.so)))):=by unfold Z vVe;rw[Z0.o,Z1.o];simp[e1]
 go_enter func23,ntmps23
 go_wp2
 clear d1 d2
 go_loopw [3,23] (λv i wr=>∃k:Nat,k<=n0/\i=iV k/\Z (Jz (rOk G) k)/\Z (Kj (w.heap.size+1) wr v (iat G.eo) (iat G.so) k)/\Z (Below (w.heap.size+1) (w.alloc (.cells #[sL a0 n0 c0,sL a1 n0 c1,sL a2 n2 c2,sL a3 n3 c3,sL a4 n4 c4,sL a5 n5 c5,sL a6 n6 c6] 25)) wr)) (λ_ i _=>n0-(intOf i).toNat)
 case atStart=>exact⟨0,nZ,rfl,Qy _,Qav _ _ _ _,Below.refl _ _⟩
 obtain⟨k,hkn,rfl,HA,HO,HN⟩:=hrel
 have BA:=(Blk.new w #[sL a0 n0 c0,sL a1 n0 c1,sL a2 n2 c2,sL a3 n3 c3,sL a4 n4 c4,sL a5 n5 c5,sL a6 n6 c6] 25 _ rfl).lower HN.o (Nat.lt_succ_self _)
 have HW:Z (Nx w wr):=Below.trans (Qe _ _) (Below.mono HN.o (Nat.le_succ _))
 have HZW:Z (w.heap.size+1<=wr.heap.size):=by unfold Z;have:=HN.o.size;rw[Q8q] at this;exact this
 have k0:=BA.c 0 rfl
 have k1:=BA.c 1 rfl
 have k5:=BA.c 5 rfl
 obtain⟨av,cv,hvs⟩:=HO.o.slice
 subst hvs
 by_cases hlt:k<n0
 ·obtain⟨b,off,rfl,_,hb,hc⟩:=hk0 (by omega)
  obtain⟨b',off',rfl,_,hb',hc'⟩:=hk1 (by omega)
  have hlt':(k:Int)<n0:=by omega
  have x0:=Q2 HW.o hb (hc k hlt)
  have y0:=Q2 HW.o hb' (hc' k hlt)
  have HRD:Z (rOk G k=(inZ (iat G.eo k) n5&&inZ (iat G.so k) 2000)):=by unfold Z rOk;rw[Z5.o]
  clear hc hc' hk0 hk1 hk2 hk3 hk4 hk5 hk6 BA
  by_cases g1:inZ (iat G.eo k) n5=true
  ·by_cases g2:inZ (iat G.so k) 2000=true
   ·have HF:Z (rOk G k=true):=by unfold Z;rw[HRD.o,g1,g2];rfl
    have HVC:Z (Ub (iat G.eo) (iat G.so) (k+1)=Ub (iat G.eo) (iat G.so) k++[iV (iat G.eo k),iV (iat G.so k)]):=rfl
    generalize iat G.eo k=xe at *
    generalize iat G.so k=xs at *
    go_wp2_with fail
    refine(Je _ (n5:Int) _ (by omega) (by omega)).mono ?_
    rintro e wr ⟨rfl,rfl⟩
    go_wp2_with fail
    refine(Je _ 2000 _ (by omega) (by omega)).mono ?_
    rintro e wr ⟨rfl,rfl⟩
    go_wp2_with (at_builtin;refine wpList_append_own_at _ rfl _ _ 66 rfl (w.heap.size+1) 68 ii (.agg #[iV 0,iV 0]) 2 16 underlying66 hi hz0 hz1 hz2 rfl (by decide) _ _ _ rfl (zB HO.o _) (aD wr.heap.size 0) 1 1 [iV xe,iV xs] rfl rfl ?c1 ?c2 ?c3 ?c4 ?c5 ?_)
    case c1=>exact λj u hj=>Qn wr _ _ _ rfl j u hj
    case c2=>intro u hu;simp at hu;rcases hu with rfl|rfl<;>rfl
    case c3=>unfold maxLen;omega
    case c4=>omega
    case c5=>have:=HZW.o;simp;omega
    intro v7 w7 hown' hgrow _ _
    have HV7:Z (Kj (w.heap.size+1) w7 v7 (iat G.eo) (iat G.so) (k+1)):=by unfold Z Kj;rw[HVC.o];exact hown'
    have HG7:Z (Below (w.heap.size+1) _ w7):=Below.grown (Below.alloc HN.o HZW.o _) hgrow (by have:=HZW.o;simp;omega) (λg hg=>(HO.o.lt g hg).1)
    clear hown' hgrow
    go_wp2
    go_roundw
    case rel=>exact⟨k+1,by omega,by go_num,Qm HA.o HF.o,HV7,HG7⟩
    case measure=>simp[intOf];omega
   ·have g2':inZ (iat G.so k) 2000=false:=by simpa using g2
    have HF:Z (rOk G k=false):=by unfold Z;rw[HRD.o,g2'];simp
    clear g2
    go_wp2_with fail
    refine(Je _ (n5:Int) _ (by omega) (by omega)).mono ?_
    rintro e w' ⟨rfl,rfl⟩
    go_wp2_with fail
    refine(Je _ 2000 _ (by omega) (by omega)).mono ?_
    rintro e w' ⟨rfl,rfl⟩
    go_wp2
    go_ret
    exact⟨Q3 (by rw[HG1.o,Qx hlt HF.o];rfl),HW.o⟩
  ·have g1':inZ (iat G.eo k) n5=false:=by simpa using g1
   have HF:Z (rOk G k=false):=by unfold Z;rw[HRD.o,g1'];simp
   clear g1
   go_wp2_with fail
   refine(Je _ (n5:Int) _ (by omega) (by omega)).mono ?_
   rintro e w' ⟨rfl,rfl⟩
   go_wp2
   go_ret
   exact⟨Q3 (by rw[HG1.o,Qx hlt HF.o];rfl),HW.o⟩
 ·have ek:n0=k:=by omega
  subst ek
  go_wp2_with fail
  refine(Q9r (w.heap.size+1) _ _ (iat G.eo) (iat G.so) _ (by exact HO.o.held)).mono ?_
  rintro e w' ⟨rfl,hx⟩
  go_wp2
  go_ret
  exact⟨Q3 (by rw[HG1.o,Qt lR HA.o];rfl),HW.o.trans hx⟩
def Xd (G:Gr)(v:Nat)(t:Int):Int:=Ui (λk=>iat G.tt k==t) (fst G v) (fst G (v+1)-fst G v)
theorem Ai (h:VG G){t:Int}(hv:v<G.eo.length)(ha:0<=Xd G v t):∃a:Nat,Xd G v t=a/\fst G v<=a/\a<fst G (v+1)/\a<G.tt.length/\iat G.tt a=t:=by
 obtain⟨a,h1,h2,h3,h4⟩:=Kw ha
 have q1:=Ku h hv
 have q2:=(Jr h (v:=v+1) (by omega)).2
 exact⟨a,h1,h2,by omega,by omega,by simpa using h4⟩
theorem Gt (B:Nat)(v0 v1 v2 v3 v4 v5 v6:Value)(G:Gr)(v:Nat)(t:Int)(w:World)(h0:HG B w v0 v1 v2 v3 v4 v5 v6 G)(hG:VG G)(hv:v<G.eo.length) :
  Calls prog 16 #[.agg #[v0,v1,v2,v3,v4,v5,v6],iV v,iV t] w λe w'=>e=.returned (iV (Xd G v t))/\Nx w w':=by
 obtain⟨⟨a0,c0,rfl,hn0,hk0⟩,⟨a1,c1,rfl,hn1,hk1⟩,⟨a2,c2,rfl,hn2,hk2⟩,⟨a3,c3,rfl,hn3,hk3⟩,⟨a4,c4,rfl,hn4,hk4⟩,⟨a5,c5,rfl,hn5,hk5⟩,⟨a6,c6,rfl,hn6,hk6⟩⟩:=h0
 have E0:=Jr hG (v:=v) (by omega)
 have E1:=Jr hG (v:=v+1) (by omega)
 have E2:=Ku hG hv
 have HL:=mh hG.lf
 have hlf:=hG.lf
 have hvv:=hG.v
 have htt:=hG.t
 generalize hz0:G.eo.length=n0 at *
 have Z0:=mh hz0
 clear hz0
 generalize hz1:G.so.length=n1 at *
 have Z1:=mh hz1
 clear hz1
 generalize hz2:G.fi.length=n2 at *
 have Z2:=mh hz2
 clear hz2
 generalize hz3:G.tt.length=n3 at *
 have Z3:=mh hz3
 clear hz3
 generalize hz4:G.co.length=n4 at *
 have Z4:=mh hz4
 clear hz4
 generalize hz5:G.sr.length=n5 at *
 have Z5:=mh hz5
 clear hz5
 generalize hz6:G.we.length=n6 at *
 have Z6:=mh hz6
 clear hz6
 have HAD:Z (Xd G v t=Ui (λk=>iat G.tt k==t) (fst G v) (fst G (v+1)-fst G v)):=rfl
 generalize fst G v=p at *
 generalize fst G (v+1)=r at *
 obtain⟨ep,hp3⟩:=E0
 obtain⟨er,hr3⟩:=E1
 have hv2:(v:Int)<n2:=by omega
 have hv3:(v:Int)+1<n2:=by omega
 have hw1:=Va (v+1) (by omega)
 obtain⟨b2,o2,ha2,_,hb2,hc2⟩:=hk2 (by omega)
 subst ha2
 have x0:w.cell? (aD b2 (o2+v))=some (iV (iat G.fi v)):=hc2 v (by omega)
 have x1:w.cell? (aD b2 (o2+(v+1)))=some (iV (iat G.fi (v+1))):=hc2 (v+1) (by omega)
 rw[ep] at x0
 rw[er] at x1
 have HX0:=mh x0
 have HX1:=mh x1
 have y0:=Lib.cell?_alloc_some (.cells #[sL a0 n0 c0,sL a1 n1 c1,sL (some (aD b2 o2)) n2 c2,sL a3 n3 c3,sL a4 n4 c4,sL a5 n5 c5,sL a6 n6 c6] 25) x0
 clear x0 x1 hc2 hk0 hk1 hk2 hk4 hk5 hk6 ep er HL hlf hG
 go_enter func16,ntmps16
 go_wp2
 clear y0
 go_loopw [7] (λi wr=>∃k:Nat,k<=r/\i=iV k/\Z (Xd G v t=Ui (λk=>iat G.tt k==t) k (r-k))/\Z (Nx (w.alloc (.cells #[sL a0 n0 c0,sL a1 n1 c1,sL (some (aD b2 o2)) n2 c2,sL a3 n3 c3,sL a4 n4 c4,sL a5 n5 c5,sL a6 n6 c6] 25)) wr)) (λi _=>r-(intOf i).toNat)
 case atStart=>exact⟨p,E2,rfl,HAD,Nx.refl _⟩
 clear HAD
 obtain⟨k,hkr,rfl,HA,HN⟩:=hrel
 have BA:=(Blk.new w #[sL a0 n0 c0,sL a1 n1 c1,sL (some (aD b2 o2)) n2 c2,sL a3 n3 c3,sL a4 n4 c4,sL a5 n5 c5,sL a6 n6 c6] 25 _ rfl).next HN.o
 have HW:=mh ((Qe _ _).trans HN.o)
 have k2:=BA.c 2 rfl
 have k3:=BA.c 3 rfl
 have x1:=Q2 HW.o hb2 HX1.o
 clear BA
 by_cases hlt:k<r
 ·have hlt':(k:Int)<r:=by omega
  have hl3:(k:Int)<n3:=by omega
  obtain⟨b,off,rfl,_,hb,hc⟩:=hk3 (by omega)
  have y0:=Q2 HW.o hb (hc k (by omega))
  have HA':Z (Xd G v t=if (iat G.tt k==t)=true then (k:Int) else Ui (λk=>iat G.tt k==t) (k+1) (r-(k+1))):=by
   unfold Z
   rw[HA.o,show r-k=(r-(k+1))+1 by omega]
   rfl
  clear hc hk3
  by_cases g1:iat G.tt k=t
  ·have f1:(iat G.tt k==t)=true:=by simpa using g1
   have HF:Z ((k:Int)=Xd G v t):=by unfold Z;rw[HA'.o,if_pos f1]
   clear g1
   go_wp2
   go_ret
   exact⟨Qu HF.o,HW.o⟩
  ·have f1:(iat G.tt k==t)=false:=by simpa using g1
   have HF:Z (Xd G v t=Ui (λk=>iat G.tt k==t) (k+1) (r-(k+1))):=by unfold Z;rw[HA'.o,if_neg (by rw[f1];simp)]
   clear g1
   go_wp2
   go_roundw
   case rel=>exact⟨k+1,by omega,by go_num,HF,HN⟩
   case measure=>simp[intOf];omega
 have ek:r=k:=by omega
 subst ek
 have HF:Z (-1=Xd G v t):=by unfold Z;rw[HA.o,Nat.sub_self];rfl
 clear HA hlt hkr hk3
 go_wp2
 go_ret
 exact⟨Qu HF.o,HW.o⟩
def En (G:Gr)(P:List Int):Nat->Bool
 |0=>iat G.sr (iat G.eo (iat P 0).toNat).toNat==iat P 0
 |j+1=>decide (0<=Xd G (iat P j).toNat (iat P (j+1)))
def pOk (G:Gr)(P:List Int)(i:Nat):Bool:=decide (0<=iat P i)&&decide (iat P i<(G.eo.length:Int))&&En G P i
def Xr (G:Gr)(P:List Int):Bool:=decide (0<P.length)&&decide (P.length<=10000)&&Qo P.length (pOk G P)
theorem ip_no {k:Nat}(hn:P.length=n)(hk:k<n)(h:pOk G P k=false):false=Xr G P:=by subst hn;simp[Xr,Qx hk h]
theorem Qbf (hn:P.length=n)(h0:0<n)(h1:n<=10000)(h:Qo n (pOk G P)=true):true=Xr G P:=by subst hn;simp[Xr,h0,h1,h]
theorem Q5j {i:Nat}(hn:G.eo.length=n)(h:pOk G P i=true):0<=iat P i/\iat P i<n:=by
 subst hn
 simp only[pOk,zG,decide_eq_true_eq] at h
 omega
theorem Il (B:Nat)(v0 v1 v2 v3 v4 v5 v6 vp:Value)(G:Gr)(P:List Int)(w:World)(h0:HG B w v0 v1 v2 v3 v4 v5 v6 G)(hp:Qi B w vp P)(hG:VG G) :
  Calls prog 15 #[.agg #[v0,v1,v2,v3,v4,v5,v6],vp] w λe w'=>e=.returned (.bool (Xr G P))/\Nx w w':=by
 have HH:=mh h0
 have HV:Z (VG G):=hG
 obtain⟨⟨a0,c0,rfl,hn0,hk0⟩,⟨a1,c1,rfl,hn1,hk1⟩,⟨a2,c2,rfl,hn2,hk2⟩,⟨a3,c3,rfl,hn3,hk3⟩,⟨a4,c4,rfl,hn4,hk4⟩,⟨a5,c5,rfl,hn5,hk5⟩,⟨a6,c6,rfl,hn6,hk6⟩⟩:=h0
 obtain⟨a7,c7,rfl,hn7,hk7⟩:=hp
 unfold maxLen at hn0 hn1 hn2 hn3 hn4 hn5 hn6 hn7
 have hvv:=hG.v
 clear hG
 generalize hz0:G.eo.length=n0 at *
 have Z0:=mh hz0
 clear hz0
 generalize hz1:G.so.length=n1 at *
 have Z1:=mh hz1
 clear hz1
 generalize hz2:G.fi.length=n2 at *
 have Z2:=mh hz2
 clear hz2
 generalize hz3:G.tt.length=n3 at *
 have Z3:=mh hz3
 clear hz3
 generalize hz4:G.co.length=n4 at *
 have Z4:=mh hz4
 clear hz4
 generalize hz5:G.sr.length=n5 at *
 have Z5:=mh hz5
 clear hz5
 generalize hz6:G.we.length=n6 at *
 have Z6:=mh hz6
 clear hz6
 generalize hz7:P.length=n7 at *
 have Z7:=mh hz7
 clear hz7
 by_cases e1:0<n7
 case neg=>
  have e1':n7=0:=by omega
  subst e1'
  have HF:Z (false=Xr G P):=by unfold Z;simp[Xr,Z7.o]
  go_enter func15,ntmps15
  go_wp2
  go_ret
  exact⟨Q3 HF.o,Qe _ _⟩
 have d1:((n7:Int)==0)=false:=by simp;omega
 by_cases e2:n7<=10000
 case neg=>
  have d2:decide (10000<(n7:Int))=true:=by simp;omega
  have HF:Z (false=Xr G P):=by unfold Z;simp[Xr,Z7.o,e2]
  go_enter func15,ntmps15
  go_wp2
  go_ret
  exact⟨Q3 HF.o,Qe _ _⟩
 have d2:decide (10000<(n7:Int))=false:=by simp;omega
 have HFB:Z (∀k,k<n7->pOk G P k=false->false=Xr G P):=λk hk h=>ip_no Z7.o hk h
 have HE:Z (∀i,i<n0->0<=iat G.eo i/\iat G.eo i<n5):=λi hi=>by have:=HV.o.eo i (by rw[Z0.o];exact hi);rw[Z5.o] at this;exact this
 go_enter func15,ntmps15
 go_wp2
 clear d1 d2
 go_loopw [5] (λi wr=>∃k:Nat,k<=n7/\i=iV k/\Z (Jz (pOk G P) k)/\Z (Nx (w.alloc (.cells #[sL a0 n0 c0,sL a1 n1 c1,sL a2 n2 c2,sL a3 n3 c3,sL a4 n4 c4,sL a5 n5 c5,sL a6 n6 c6] 25)) wr)) (λi _=>n7-(intOf i).toNat)
 case atStart=>exact⟨0,nZ,rfl,Qy _,Nx.refl _⟩
 obtain⟨k,hkn,rfl,HA,HN⟩:=hrel
 have BA:=(Blk.new w #[sL a0 n0 c0,sL a1 n1 c1,sL a2 n2 c2,sL a3 n3 c3,sL a4 n4 c4,sL a5 n5 c5,sL a6 n6 c6] 25 _ rfl).next HN.o
 have HW:=mh ((Qe _ _).trans HN.o)
 by_cases hlt:k<n7
 ·have hlt':(k:Int)<n7:=by omega
  obtain⟨b7,o7,ha7,_,hb7,hc7⟩:=hk7 (by omega)
  subst ha7
  have x0:=Q2 HW.o hb7 (hc7 k hlt)
  have k0:=BA.c 0 rfl
  have HPD:Z (pOk G P k=(decide (0<=iat P k)&&decide (iat P k<(n0:Int))&&En G P k)):=by unfold Z;rw[<-Z0.o];rfl
  clear hk1 hk2 hk3 hk4 hk6 hk7
  by_cases g1:iat P k<0
  ·have f1:decide (iat P k<0)=true:=by simpa using g1
   have HF:=mh (HFB.o k hlt (by rw[HPD.o];simp;omega))
   clear hc7 g1 BA hk0 hk5
   go_wp2
   go_quiet (fail)
   go_wp2
   go_ret
   exact⟨Q3 HF.o,HW.o.trans ⟨rfl,rfl,rfl,lR,λ_ _=>rfl⟩⟩
  have f1:decide (iat P k<0)=false:=by simpa using g1
  by_cases g2:(n0:Int)<=iat P k
  ·have f2:decide ((n0:Int)<=iat P k)=true:=by simpa using g2
   have HF:=mh (HFB.o k hlt (by rw[HPD.o];simp;omega))
   clear hc7 g1 g2 BA hk0 hk5
   go_wp2
   go_quiet (fail)
   go_wp2
   go_ret
   exact⟨Q3 HF.o,HW.o.trans ⟨rfl,rfl,rfl,lR,λ_ _=>rfl⟩⟩
  obtain⟨s,hs⟩:∃s:Nat,iat P k=(s:Int):=⟨(iat P k).toNat,by omega⟩
  have hsn:s<n0:=by omega
  have hsn':(s:Int)<n0:=by omega
  have f2:decide ((n0:Int)<=iat P k)=false:=by simpa using g2
  have HP2:Z (pOk G P k=En G P k):=by
   unfold Z
   rw[HPD.o]
   have q1:decide (0<=iat P k)=true:=by simp;omega
   have q2:decide (iat P k<(n0:Int))=true:=by simp;omega
   rw[q1,q2]
   simp
  clear g1 g2 HPD
  rw[hs] at x0 f1 f2
  have HS:=mh hs
  clear hs
  go_wp2
  go_quiet (fail)
  generalize hwq:World.drewN wr nq=wq at *
  have HQ:Z (Nx wr wq):=by rw[<-hwq];exact⟨rfl,rfl,rfl,lR,λ_ _=>rfl⟩
  have BQ:=BA.next HQ.o
  have x1:=Q0 HQ.o x0
  have HWq:=mh (HW.o.trans HQ.o)
  have HNq:=mh (HN.o.trans HQ.o)
  clear hwq BA HN HW x0 f1 f2 k0
  by_cases hk:k=0
  ·subst hk
   obtain⟨e,he⟩:∃e:Nat,iat G.eo s=(e:Int):=⟨(iat G.eo s).toNat,by have:=(HE.o s hsn).1;omega⟩
   have hen:e<n5:=by have:=(HE.o s hsn).2;omega
   have hen':(e:Int)<n5:=by omega
   obtain⟨b0,o0,ha0,_,hb0,hc0⟩:=hk0 (by omega)
   obtain⟨b5,o5,ha5,_,hb5,hc5⟩:=hk5 (by omega)
   subst ha0 ha5
   have y0:=Q2 HWq.o hb0 (hc0 s hsn)
   rw[he] at y0
   have y1:=Q2 HWq.o hb5 (hc5 e hen)
   have k0:=BQ.c 0 rfl
   have k5:=BQ.c 5 rfl
   rw[Nat.add_zero] at x1
   have HP3:Z (pOk G P 0=(iat G.sr e==(s:Int))):=by
    unfold Z
    rw[HP2.o]
    show(iat G.sr (iat G.eo (iat P 0).toNat).toNat==iat P 0)=_
    rw[HS.o,zU,he,zU]
   clear hc0 hc5 hc7 he BQ
   by_cases g3:iat G.sr e=(s:Int)
   ·have f3:(iat G.sr e !=(s:Int))=false:=by simpa using g3
    have HF:Z (pOk G P 0=true):=by unfold Z;rw[HP3.o];simpa using g3
    clear g3
    go_wp2
    go_quiet (fail)
    go_wp2
    go_quiet (fail)
    go_wp2
    go_roundw
    case rel=>exact⟨1,by omega,by go_num,Qm HA.o HF.o,HNq.o.trans ⟨rfl,rfl,rfl,lR,λ_ _=>rfl⟩⟩
    case measure=>simp[intOf];omega
   ·have f3:(iat G.sr e !=(s:Int))=true:=by simpa using g3
    have HF:=mh (HFB.o 0 hlt (by rw[HP3.o];simpa using g3))
    clear g3
    go_wp2
    go_quiet (fail)
    go_wp2
    go_ret
    exact⟨Q3 HF.o,HWq.o.trans ⟨rfl,rfl,rfl,lR,λ_ _=>rfl⟩⟩
  obtain⟨j,rfl⟩:∃j,k=j+1:=⟨k-1,by omega⟩
  obtain⟨u,hu⟩:∃u:Nat,iat P j=(u:Int):=⟨(iat P j).toNat,by have:=(Q5j Z0.o (HA.o j (by omega))).1;omega⟩
  have hun:u<n0:=by have:=(Q5j Z0.o (HA.o j (by omega))).2;omega
  have hj0:((j:Int)+1==0)=false:=by simp;omega
  have hjp:decide (0<(j:Int)+1)=true:=by rw[decide_eq_true_iff];omega
  have hjl:(j:Int)<n7:=by omega
  have hwj:=Va j (by omega)
  have hc7j:=hc7 j (by omega)
  rw[hu] at hc7j
  have HP3:Z (pOk G P (j+1)=decide (0<=Xd G u (s:Int))):=by
   unfold Z
   rw[HP2.o]
   show decide (0<=Xd G (iat P j).toNat (iat P (j+1)))=_
   rw[HS.o,hu,zU]
  clear hc7 hu hk hk0 hk5
  go_wp2
  go_quiet (fail)
  generalize hwq:World.drewN wq nq=wz at *
  have HQ2:Z (Nx wq wz):=by rw[<-hwq];exact⟨rfl,rfl,rfl,lR,λ_ _=>rfl⟩
  have BZ:=BQ.next HQ2.o
  have HWz:=mh (HWq.o.trans HQ2.o)
  have HNz:=mh (HNq.o.trans HQ2.o)
  have z1:=cell_regrown (Q0 HQ2.o x1)
  have z0:=cell_regrown (Q2 HWz.o hb7 hc7j)
  have k0:=cell_regrown (BZ.c 0 rfl)
  have k1:=cell_regrown (BZ.c 1 rfl)
  have k2:=cell_regrown (BZ.c 2 rfl)
  have k3:=cell_regrown (BZ.c 3 rfl)
  have k4:=cell_regrown (BZ.c 4 rfl)
  have k5:=cell_regrown (BZ.c 5 rfl)
  have k6:=cell_regrown (BZ.c 6 rfl)
  have CG:Z (∀d os,Calls prog 16 #[.agg #[sL a0 n0 c0,sL a1 n1 c1,sL a2 n2 c2,sL a3 n3 c3,sL a4 n4 c4,sL a5 n5 c5,sL a6 n6 c6],iV u,iV (s:Int)] (Sort.grow (redrawn wz d) os) λe w''=>e=.returned (iV (Xd G u (s:Int)))/\∃p:Regrown,w''=Sort.grow (redrawn wz p.d) p.os):=
   λd os=>Calls.regrown_of (Gt B _ _ _ _ _ _ _ G u (s:Int) _ ((HH.o.next HWz.o).next (below_regrown wz d os)) HV.o (by rw[Z0.o];exact hun))
  clear hwq x1 hc7j BQ BZ HNq HWq HQ HQ2
  generalize hAR:Xd G u (s:Int)=ar at *
  clear hAR
  by_cases g4:ar<0
  ·have f4:decide (ar<0)=true:=by simpa using g4
   have HF:=mh (HFB.o (j+1) hlt (by rw[HP3.o];simp;omega))
   clear g4
   go_wp2
   refine wp_region_quiet_below (by kernel_rfl) (by kernel_rfl) ?_
   repeat (go_big_quiet_step (exact CG.o _ _))
   refine wpQuiet_nil ?_
   intro _ hw'
   obtain⟨⟨dq,osq⟩,hw''⟩:=hw'
   subst hw''
   have HB:Z (Nx wz (Sort.grow (redrawn wz dq) osq)):=below_regrown wz dq osq
   go_wp2
   go_ret
   exact⟨Q3 HF.o,HWz.o.trans HB.o⟩
  ·have f4:decide (ar<0)=false:=by simpa using g4
   have HF:Z (pOk G P (j+1)=true):=by unfold Z;rw[HP3.o];simp;omega
   clear g4
   go_wp2
   refine wp_region_quiet_below (by kernel_rfl) (by kernel_rfl) ?_
   repeat (go_big_quiet_step (exact CG.o _ _))
   refine wpQuiet_nil ?_
   intro _ hw'
   obtain⟨⟨dq,osq⟩,hw''⟩:=hw'
   subst hw''
   have HB:Z (Nx wz (Sort.grow (redrawn wz dq) osq)):=below_regrown wz dq osq
   go_wp2
   go_roundw
   case rel=>exact⟨j+1+1,by omega,by go_num,Qm HA.o HF.o,HNz.o.trans HB.o⟩
   case measure=>simp[intOf];omega
 have HF:=mh (Qbf Z7.o e1 e2 (Qt (by omega) HA.o))
 have ek:n7=k:=by omega
 subst ek
 clear HA hlt hkn BA
 go_wp2
 go_ret
 exact⟨Q3 HF.o,HW.o⟩
end Go.Proofs.YtphiaobccollhaaGreat
