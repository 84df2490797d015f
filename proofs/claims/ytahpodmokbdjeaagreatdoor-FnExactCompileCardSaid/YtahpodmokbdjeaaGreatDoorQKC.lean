import Derived.Test.YtahpodmokbdjeaaGreatDoorQKA
import Derived.Test.YtahpodmokbdjeaaGreatDoorQRoR
namespace Go.Proofs.YtahpodmokbdjeaaGreatDoor
open Go.RowKit Tryz
set_option linter.unusedVariables false
set_option maxRecDepth 1000000
set_option maxHeartbeats 16000000
theorem Q1 {w w':World}(k:Nx w w'){b o:Nat}{v:Value}(h:w.cell? (aD b o)=some v):w'.cell? (aD b o)=some v:=Q0 k (Zj h) h
def Yr (es:List Eg)(i:Int)(e:Nat):Bool:=decide ((eat es e).way=i)
def Jl (es:List Eg)(i:Int)(k:Nat):List Nat:=(List.range k).filter (Yr es i)
theorem Qc1 {es:List Eg}{i:Int}{k:Nat}(h:(eat es k).way=i):Jl es i (k+1)=Jl es i k++[k]:=by
 unfold Jl
 rw[List.range_succ,zZ]
 simp[Yr,h]
theorem Qeu {es:List Eg}{i:Int}{k:Nat}(h:(eat es k).way≠i):Jl es i (k+1)=Jl es i k:=by
 unfold Jl
 rw[List.range_succ,zZ]
 simp[Yr,h]
theorem Ku (es:List Eg)(i:Int)(k:Nat):(Jl es i k).length<=k:=by
 unfold Jl
 have:=yA (Yr es i) (List.range k)
 simpa using this
def Qb (l:List Nat):List Int:=l.map λe:Nat=>(e:Int)
def ones (l:List Nat):List (List Int):=l.map λe:Nat=>[(e:Int)]
theorem Q9y (l:List Nat)(k:Nat):ones (l++[k])=ones l++[[(k:Int)]]:=by simp[ones]
theorem Q42 (l:List Nat):(ones l).length=l.length:=by simp[ones]
theorem Tu (B:Nat)(w:World)(z:Int)(h:B<=w.heap.size):Qd B (w.alloc (.cells #[iV z] 2)) (sL (sA w.heap.size) 1 1) [z]:=
 ⟨rfl,.inr ⟨w.heap.size,1,#[iV z],rfl,h,by show(w.heap.push _)[w.heap.size]?=_;simp,lR,by simp[maxLen],by simp,by simp[Jr]⟩⟩
theorem J9.base {B B':Nat}{w:World}{v:Value}{ws:List (List Int)}(h:J9 B w v ws)(hB:B'<=B):J9 B' w v ws:=by
 obtain⟨cs,h1,h2⟩:=h
 refine⟨cs,?_,λi hi=>(h2 i hi).base hB⟩
 obtain⟨h3,h4⟩:=h1
 refine⟨h3,?_⟩
 rcases h4 with h4|⟨g,cap,cur,hv,hg,r⟩
 ·exact oL h4
 ·exact oR ⟨g,cap,cur,hv,by omega,r⟩
theorem Q4j (B:Nat)(v0 v1 v2 v3:Value)(R:Rd)(wi:Int)(w:World)(h0:Zq B w v0 v1 v2 v3 R)(hm:R.edges.length<=4000) :
  Calls prog 102 #[.agg #[v0,v1,v2,v3],iV wi] w λe w'=>(∃u,e=.returned u/\J9 w.heap.size w' u (ones (Jl R.edges wi R.edges.length)))/\Nx w w':=by
 obtain⟨ii,hi,hz0,hz1,hz2⟩:=info_parts P1
 obtain⟨a,cap,rfl,hml,hk⟩:=h0.2.1
 clear h0
 generalize hes:R.edges=es at *
 clear hes
 generalize hz:es.length=m at *
 have HZ:Z (es.length=m):=hz
 clear hz hml
 have HB0:Z (Blk (w.alloc (.cells #[v0,sL a m cap,v2,v3] 52)) w.heap.size #[v0,sL a m cap,v2,v3]):=Blk.new w _ _ _ rfl
 have HX0:Z (Nx w (w.alloc (.cells #[v0,sL a m cap,v2,v3] 52))):=Q4 _ _
 have HS0:Z ((w.alloc (.cells #[v0,sL a m cap,v2,v3] 52)).heap.size=w.heap.size+1):=Q3 _ _
 go_enter func102,ntmps102
 go_upto_region 1 with fail
 generalize w.alloc (.cells #[v0,sL a m cap,v2,v3] 52)=w1 at *
 go_wp2
 go_loopw [5,6] (λu i wr=>∃k:Nat,k<=m/\i=iV k/\Z (J9 w1.heap.size wr u (ones (Jl es wi k)))/\Z (Nx w1 wr)) (λ_ i _=>m-(intOf i).toNat)
 case atStart=>exact⟨0,nZ,rfl,Iz w1.heap.size w1 lR,Q4 _ _⟩
 obtain⟨k,hkm,rfl,HO,HN⟩:=hrel
 have BW:=HB0.o.next HN.o
 have k1:=BW.c 1 rfl
 by_cases hlt:k<m
 ·obtain⟨b,off,rfl,hB,hb,hc⟩:=hk (by omega)
  obtain⟨d0,d1,d2,d3,d4,d5,d6⟩:=hc k hlt
  have d3:=Q0 (HX0.o.trans HN.o) hb d3
  have hlt':(k:Int)<m:=by omega
  clear d0 d1 d2 d4 d5 d6 hc hk
  by_cases hw:(eat es k).way=wi
  ·have g1:((eat es k).way==wi)=true:=by simpa using hw
   have HES:Z (ones (Jl es wi (k+1))=ones (Jl es wi k)++[[(k:Int)]]):=by unfold Z;rw[Qc1 hw,Q9y]
   have HL:Z ((ones (Jl es wi k)).length<=4000):=by unfold Z;rw[Q42];have:=Ku es wi k;omega
   generalize ones (Jl es wi k)=ws at *
   generalize (eat es k).way=wy at *
   have HO2:=HO.o.next (Q4 wr (.cells #[iV (k:Int)] 2))
   obtain⟨cs,hrow,hwords⟩:=HO2
   have HROW:Z ((wr.alloc (.cells #[iV (k:Int)] 2)).ownsRow w1.heap.size 119 1 u5 ws.length cs):=hrow
   have HWD:Z (∀i,i<ws.length->Qd w1.heap.size (wr.alloc (.cells #[iV (k:Int)] 2)) (vat cs i) (wd ws i)):=hwords
   have HZ3:Z (w1.heap.size<=wr.heap.size):=HN.o.size
   have HU:Z (Qd w1.heap.size (wr.alloc (.cells #[iV (k:Int)] 2)) (sL (sA wr.heap.size) 1 1) [(k:Int)]):=Tu _ _ _ HZ3.o
   have HX2:Z (Nx w1 (wr.alloc (.cells #[iV (k:Int)] 2))):=HN.o.trans (Q4 _ _)
   have HS2:Z ((wr.alloc (.cells #[iV (k:Int)] 2)).heap.size=wr.heap.size+1):=Q3 _ _
   obtain⟨av,cv,hvs⟩:=HO.o.slice
   subst hvs
   generalize hwl:ws.length=wl at *
   have HWL:Z (ws.length=wl):=hwl
   have hwl4:wl<=4000:=HL.o
   clear hrow hwords hw hwl
   go_wp2_with (at_builtin;refine wpList_append_own_at _ rfl _ _ 65 rfl w1.heap.size 119 ii (.agg #[sN]) 1 24 underlying65 hi hz0 hz1 hz2 rfl (by decide) _ _ _ rfl (zB HROW.o _) (aD (wr.heap.size+1) 0) 1 1 [sL (sA wr.heap.size) 1 1] rfl rfl ?c1 ?c2 ?c3 ?c4 ?c5 ?_)
   case c1=>intro j u hj;rw[<-HS2.o];exact Ql _ _ _ _ rfl j u hj
   case c2=>intro u hu;simp at hu;subst hu;rfl
   case c3=>unfold maxLen;omega
   case c4=>omega
   case c5=>rw[Q3];have:=HX2.o.size;omega
   intro v7 w7 hown hgrow _ _
   have HO7:Z (J9 w1.heap.size w7 v7 (ones (Jl es wi (k+1)))):=by rw[HES.o];exact J9.snoc (by rw[HWL.o];exact HROW.o) (λi hi=>HWD.o i (by rw[<-HWL.o];exact hi)) HU.o _ hgrow (by rw[HWL.o];exact hown)
   have HN7:Z (Nx w1 w7):=Below.grown (HX2.o.alloc _) hgrow (by rw[Q3];have:=HX2.o.size;omega) (λg hg=>(Q5 HROW.o g hg).1)
   clear hown hgrow HO HN k1 d3 BW
   go_wp2
   go_roundw
   case rel=>exact⟨k+1,by omega,by go_num,HO7,HN7⟩
   case measure=>simp[intOf];omega
  ·have g1:((eat es k).way==wi)=false:=by simpa using hw
   have HES:Z (Jl es wi (k+1)=Jl es wi k):=Qeu hw
   generalize (eat es k).way=wy at *
   clear hw
   go_wp2
   go_roundw
   case rel=>exact⟨k+1,by omega,by go_num,by rw[HES.o];exact HO.o,HN⟩
   case measure=>simp[intOf];omega
 have ek:m=k:=by omega
 subst ek
 have HF:Z (J9 w1.heap.size wr u5 (ones (Jl es wi m))):=HO.o
 clear HO hlt hkm hk
 go_wp2
 go_ret
 refine⟨⟨_,rfl,?_⟩,HX0.o.trans HN.o⟩
 exact HF.o.base HX0.o.size
def Vy (es:List Eg)(i:Int)(k:Nat):List Nat:=(List.range k).filter λe=>Yr es i e&&!(eat es e).back
def Xt (es:List Eg)(i:Int)(k:Nat):List Nat:=((List.range k).filter λe=>Yr es i e&&(eat es e).back).reverse
theorem Qb2 {es:List Eg}{i:Int}{k:Nat}(h:(eat es k).way=i)(hb:(eat es k).back=false):Vy es i (k+1)=Vy es i k++[k]:=by
 unfold Vy;rw[List.range_succ,zZ];simp[Yr,h,hb]
theorem Q9e {es:List Eg}{i:Int}{k:Nat}(hb:(eat es k).back=true):Vy es i (k+1)=Vy es i k:=by
 unfold Vy;rw[List.range_succ,zZ];simp[hb]
theorem Qed {es:List Eg}{i:Int}{k:Nat}(h:(eat es k).way≠i):Vy es i (k+1)=Vy es i k:=by
 unfold Vy;rw[List.range_succ,zZ];simp[Yr,h]
theorem Qdh {es:List Eg}{i:Int}{k:Nat}(h:(eat es k).way=i)(hb:(eat es k).back=true):Xt es i (k+1)=k::Xt es i k:=by
 unfold Xt;rw[List.range_succ,zZ];simp[Yr,h,hb]
theorem Q79 {es:List Eg}{i:Int}{k:Nat}(hb:(eat es k).back=false):Xt es i (k+1)=Xt es i k:=by
 unfold Xt;rw[List.range_succ,zZ];simp[hb]
theorem Qfv {es:List Eg}{i:Int}{k:Nat}(h:(eat es k).way≠i):Xt es i (k+1)=Xt es i k:=by
 unfold Xt;rw[List.range_succ,zZ];simp[Yr,h]
theorem Q3e (es:List Eg)(i:Int)(k:Nat):(Qb (Vy es i k)).length<=k:=by
 unfold Vy Qb
 have:=yA (λe=>Yr es i e&&!(eat es e).back) (List.range k)
 simpa using this
theorem Q5k (es:List Eg)(i:Int)(k:Nat):(Qb (Xt es i k)).length<=k:=by
 unfold Xt Qb
 have:=yA (λe=>Yr es i e&&(eat es e).back) (List.range k)
 simpa using this
def Jm (N:Nt)(es:List Eg)(i:Nat):List (List Nat):=[Vy es i es.length]++(if (wat N.ways i).both then [Xt es i es.length] else [])
theorem Pf (l:List Nat)(k:Nat):Qb (l++[k])=Qb l++[(k:Int)]:=by simp[Qb]
theorem Q40 (B:Nat)(w:World)(h:B<=w.heap.size):Qd B (w.alloc (.cells #[] 2)) (sL (sA w.heap.size) 0 0) (Qb []):=G4 B w h
theorem Qbv {B:Nat}{w:World}{u:Value}{x:List Int}(hB:B<=w.heap.size)(h:Qd B w u x):J9 B (w.alloc (.cells #[u] 119)) (sL (sA w.heap.size) 1 1) [x]:=
 ⟨[u],⟨rfl,.inr ⟨w.heap.size,1,#[u],rfl,hB,by show(w.heap.push _)[w.heap.size]?=_;simp,lR,by simp[maxLen],by simp,by simp⟩⟩,λi hi=>by
  have:i=0:=by simpa using hi
  subst this
  exact h.next (Q4 _ _)⟩
theorem Gd (B0 B:Nat)(n0 n1 n2 n3:Value)(N:Nt)(v0 v1 v2 v3:Value)(R:Rd)(wi:Nat)(w:World)(hN:Ye B0 w n0 n1 n2 n3 N)(h0:Zq B w v0 v1 v2 v3 R)(hm:R.edges.length<=4000)(hwi:wi<N.ways.length) :
  Calls prog 104 #[.agg #[n0,n1,n2,n3,iV N.uturn],.agg #[v0,v1,v2,v3],iV (wi:Int)] w λe w'=>(∃u,e=.returned u/\J9 w.heap.size w' u ((Jm N R.edges wi).map Qb))/\Nx w w':=by
 obtain⟨ii,hi,hz0,hz1,hz2⟩:=info_parts P1
 obtain⟨a,cap,rfl,hml,hk⟩:=h0.2.1
 obtain⟨aw,capw,rfl,hmw,hkw⟩:=hN.2.1
 unfold maxLen at hmw
 have HTR:Z ((Jm N R.edges wi).map Qb=[Qb (Vy R.edges wi R.edges.length)]++(if (wat N.ways wi).both then [Qb (Xt R.edges wi R.edges.length)] else [])):=by
  unfold Z Jm
  rw[yL]
  congr 1
  split<;>rfl
 obtain⟨bw,ow,haw,hBw,hbw,hcw⟩:=hkw (by omega)
 obtain⟨vn,vw,wd0,wd1,wd2,wd3,wd4⟩:=hcw wi hwi
 have HW1:Z (w.cell? (aD bw (ow+wi*4+1))=some (.bool (wat N.ways wi).both)):=wd1
 have HBW:Z (bw<w.heap.size):=hbw
 subst haw
 clear h0 hN hkw hcw wd4 wd0 wd1 wd2 wd3 vn vw
 generalize hes:R.edges=es at *
 clear hes
 generalize hz:es.length=m at *
 have HZ:Z (es.length=m):=hz
 clear hz hml
 generalize hzw:N.ways.length=nw at *
 clear hzw
 generalize (wat N.ways wi).both=both at *
 generalize hW1:(w.alloc (.cells #[n0,sL (some (aD bw ow)) nw capw,n2,n3,iV N.uturn] 38)).alloc (.cells #[v0,sL a m cap,v2,v3] 52)=w1
 have HB0:Z (Blk w1 (w.heap.size+1) #[v0,sL a m cap,v2,v3]):=by rw[<-hW1];exact Blk.new _ _ _ _ (by rw[Q3])
 have HBN:Z (Blk w1 w.heap.size #[n0,sL (some (aD bw ow)) nw capw,n2,n3,iV N.uturn]):=by rw[<-hW1];exact(Blk.new w _ _ _ rfl).alloc _
 have HX0:Z (Nx w w1):=by rw[<-hW1];exact Zk _ _ _
 go_enter func104,ntmps104
 go_upto_region 1 with fail
 clear hW1
 go_wp2
 go_loopw [7,8,9] (λut ub i wr=>∃k:Nat,k<=m/\i=iV k/\Z (Qd w1.heap.size wr ut (Qb (Vy es wi k)))/\Z (Qd w1.heap.size wr ub (Qb (Xt es wi k)))/\Z (Nx w1 wr)) (λ_ _ i _=>m-(intOf i).toNat)
 case atStart=>exact⟨0,nZ,rfl,Qd.next (Q40 w1.heap.size w1 lR) (Q4 _ _),by have:=Q40 w1.heap.size (w1.alloc (.cells #[] 2)) (by rw[Q3];omega);rw[Q3] at this;exact this,Zk _ _ _⟩
 obtain⟨k,hkm,rfl,HT,HK,HN⟩:=hrel
 have BW:=HB0.o.next HN.o
 have k1:=BW.c 1 rfl
 by_cases hlt:k<m
 ·obtain⟨b,off,rfl,hB,hb,hc⟩:=hk (by omega)
  obtain⟨d0,d1,d2,d3,d4,d5,d6⟩:=hc k hlt
  have d3:=Q0 (HX0.o.trans HN.o) hb d3
  have d5:=Q0 (HX0.o.trans HN.o) hb d5
  have hlt':(k:Int)<m:=by omega
  clear d0 d1 d2 d4 d6 hc hk
  have HLT:Z ((Qb (Vy es wi k)).length<=4000):=by unfold Z;have:=Q3e es wi k;omega
  have HLB:Z ((Qb (Xt es wi k)).length<=4000):=by unfold Z;have:=Q5k es wi k;omega
  by_cases hw:(eat es k).way=wi
  ·have g1:((eat es k).way==(wi:Int))=true:=by simpa using hw
   have HU:Z (Qd w1.heap.size (wr.alloc (.cells #[iV (k:Int)] 2)) (sL (sA wr.heap.size) 1 1) [(k:Int)]):=Tu _ _ _ HN.o.size
   have HX2:Z (Nx wr (wr.alloc (.cells #[iV (k:Int)] 2))):=Q4 _ _
   cases hbk:(eat es k).back
   ·have HE1:Z (Qb (Vy es wi (k+1))=Qb (Vy es wi k)++[(k:Int)]):=by unfold Z;rw[Qb2 hw hbk,Pf]
    have HE2:Z (Xt es wi (k+1)=Xt es wi k):=Q79 hbk
    rw[hbk] at d5
    generalize (eat es k).way=wy at *
    clear hw hbk
    go_wp2_with fail
    refine(Zx w1.heap.size w1.heap.size _ _ (Qb (Vy es wi k)) [(k:Int)] _ (by exact(HT.o.next HX2.o).held) (by exact HU.o.held) (by have:=HLT.o;omega) (by simp)).mono ?_
    rintro e w4 ⟨⟨u,rfl,hO⟩,hx⟩
    have HN4:Z (Nx w1 w4):=(HN.o.trans HX2.o).trans hx
    have HT4:Z (Qd w1.heap.size w4 u (Qb (Vy es wi (k+1)))):=by rw[HE1.o];exact hO.base (HN.o.trans HX2.o).size
    have HK4:Z (Qd w1.heap.size w4 u8 (Qb (Xt es wi (k+1)))):=by rw[HE2.o];exact(HK.o.next HX2.o).next hx
    clear hO hx k1 d3 d5 BW HT HK HN
    go_wp2
    go_roundw
    case rel=>exact⟨k+1,by omega,by go_num,HT4,HK4,HN4⟩
    case measure=>simp[intOf];omega
   ·have HE1:Z (Vy es wi (k+1)=Vy es wi k):=Q9e hbk
    have HE2:Z (Qb (Xt es wi (k+1))=[(k:Int)]++Qb (Xt es wi k)):=by unfold Z;rw[Qdh hw hbk];rfl
    rw[hbk] at d5
    generalize (eat es k).way=wy at *
    clear hw hbk
    go_wp2_with fail
    refine(Zx w1.heap.size w1.heap.size _ _ [(k:Int)] (Qb (Xt es wi k)) _ (by exact HU.o.held) (by exact(HK.o.next HX2.o).held) (by simp) (by have:=HLB.o;omega)).mono ?_
    rintro e w4 ⟨⟨u,rfl,hO⟩,hx⟩
    have HN4:Z (Nx w1 w4):=(HN.o.trans HX2.o).trans hx
    have HK4:Z (Qd w1.heap.size w4 u (Qb (Xt es wi (k+1)))):=by rw[HE2.o];exact hO.base (HN.o.trans HX2.o).size
    have HT4:Z (Qd w1.heap.size w4 u7 (Qb (Vy es wi (k+1)))):=by rw[HE1.o];exact(HT.o.next HX2.o).next hx
    clear hO hx k1 d3 d5 BW HT HK HN
    go_wp2
    go_roundw
    case rel=>exact⟨k+1,by omega,by go_num,HT4,HK4,HN4⟩
    case measure=>simp[intOf];omega
  ·have g1:((eat es k).way==(wi:Int))=false:=by simpa using hw
   have HE1:Z (Vy es wi (k+1)=Vy es wi k):=Qed hw
   have HE2:Z (Xt es wi (k+1)=Xt es wi k):=Qfv hw
   generalize (eat es k).way=wy at *
   clear hw
   go_wp2
   go_roundw
   case rel=>exact⟨k+1,by omega,by go_num,by rw[HE1.o];exact HT.o,by rw[HE2.o];exact HK.o,HN⟩
   case measure=>simp[intOf];omega
 have ek:m=k:=by omega
 subst ek
 obtain⟨a7,c7,e7⟩:=HT.o.slice
 obtain⟨a8,c8,e8⟩:=HK.o.slice
 generalize (Qb (Vy es wi m)).length=n7 at e7
 generalize (Qb (Xt es wi m)).length=n8 at e8
 subst e7 e8
 have c1:=(HBN.o.next HN.o).c 1 rfl
 have c2:=Q0 (HX0.o.trans HN.o) HBW.o HW1.o
 have hwi':(wi:Int)<nw:=by omega
 have HO1:Z (J9 w1.heap.size (wr.alloc (.cells #[(sL a7 n7 c7)] 119)) (sL (sA wr.heap.size) 1 1) [Qb (Vy es wi m)]):=Qbv HN.o.size HT.o
 have HX1:Z (Nx w1 (wr.alloc (.cells #[(sL a7 n7 c7)] 119))):=HN.o.trans (Q4 _ _)
 have HK1:Z (Qd w1.heap.size (wr.alloc (.cells #[(sL a7 n7 c7)] 119)) (sL a8 n8 c8) (Qb (Xt es wi m))):=HK.o.next (Q4 _ _)
 have HS1:Z ((wr.alloc (.cells #[(sL a7 n7 c7)] 119)).heap.size=wr.heap.size+1):=Q3 _ _
 have c1a:=Q1 (Q4 wr (.cells #[(sL a7 n7 c7)] 119)) c1
 have c2a:=Q1 (Q4 wr (.cells #[(sL a7 n7 c7)] 119)) c2
 clear hlt hkm hk BW HT HK
 cases both
 ·have HF:Z ((Jm N es wi).map Qb=[Qb (Vy es wi m)]):=by unfold Z;rw[HTR.o];simp
  go_wp2
  go_ret
  refine⟨⟨_,rfl,?_⟩,HX0.o.trans HX1.o⟩
  rw[HF.o]
  exact HO1.o.base HX0.o.size
 ·have HF:Z ((Jm N es wi).map Qb=[Qb (Vy es wi m)]++[Qb (Xt es wi m)]):=by unfold Z;rw[HTR.o];simp
  obtain⟨cs,hrow,hwords⟩:=HO1.o
  have HROW:Z ((wr.alloc (.cells #[(sL a7 n7 c7)] 119)).ownsRow w1.heap.size 119 1 (sL (sA wr.heap.size) 1 1) 1 cs):=hrow
  have HWD:Z (∀i,i<1->Qd w1.heap.size (wr.alloc (.cells #[(sL a7 n7 c7)] 119)) (vat cs i) (wd [Qb (Vy es wi m)] i)):=hwords
  clear hrow hwords
  go_wp2_with (at_builtin;refine wpList_append_own_at _ rfl _ _ 65 rfl w1.heap.size 119 ii (.agg #[sN]) 1 24 underlying65 hi hz0 hz1 hz2 rfl (by decide) _ _ _ rfl (zB HROW.o _) (aD (wr.heap.size+1) 0) 1 1 [sL a8 n8 c8] rfl rfl ?e1 ?e2 ?e3 ?e4 ?e5 ?_)
  case e2=>rfl
  case e3=>unfold maxLen;omega
  case e5=>have:=HX1.o.size;have:=HS1.o;omega
  intro v7 w7 hown hgrow _ _
  have HO7:Z (J9 w1.heap.size w7 v7 ([Qb (Vy es wi m)]++[Qb (Xt es wi m)])):=J9.snoc (ws:=[Qb (Vy es wi m)]) HROW.o (λi hi=>HWD.o i (by simpa using hi)) HK1.o _ hgrow hown
  have HN7:Z (Nx w1 w7):=Below.grown (HX1.o.alloc _) hgrow (by rw[Q3];have:=HX1.o.size;omega) (λg hg=>(Q5 HROW.o g hg).1)
  clear hown hgrow
  go_wp2
  go_ret
  refine⟨⟨_,rfl,?_⟩,HX0.o.trans HN7.o⟩
  rw[HF.o]
  exact HO7.o.base HX0.o.size
end Go.Proofs.YtahpodmokbdjeaaGreatDoor
namespace Go.Proofs.YtahpodmokbdjeaaGreatDoor
open Go.RowKit
set_option linter.unusedVariables false
set_option maxRecDepth 1000000
set_option maxHeartbeats 16000000
theorem V9 {P:Program}{ops:Array Oper}{o:Oper}{a:Act}{w:World}{K:Act->World->Prop}{Q:Exit->Act->World->Prop}{E:Prop}
  (hg:o.guard=none) (s x:Operand) (t:TypeId) (hop:o.op=Op.call { callee:=Callee.builtin Builtin.append,args:=#[s,x],argTypes:=#[t,t] })
  (e:TypeId) (i:TypeInfo) (z:Value) (size bytes:Nat) (h1:P.underlying t=some (.slice e)) (h2:P.info? e=some i) (h3:i.zero=some z) (h4:i.size=size) (h5:i.bytes=bytes) (h6:z.cells.size=size) (h7:0<size)
  (B:Nat) (v:Value) (n:Nat) (olds:List Value) (hs:a.eval s=v) (hown:w.ownsRow B e size v n olds)
  (ad:Addr) (m c:Nat) (news:List Value) (hx:a.eval x=sL (some ad) m c) (hn:news.length=m*size) (hc:∀j u,news[j]?=some u->w.cell? (ad.add j)=some u) (h1c:∀u∈news,u.oneCell'=true)
  (b1:n+m<=maxLen) (b2:(n+m)*bytes<=140737488355328) (hB:B<=w.heap.size)
  (hK:∀v' w',w'.ownsRow B e size v' (n+m) (olds++news)->w.grownBy w' v.ownBlock->(v'.ownBlock=v.ownBlock\/v'.ownBlock=some w.heap.size)->K (a.put o.dst v') w') :
  if Region.wanted o (yielded ops a.tmps)=true then Oper.wp P o a w K Q else E:=by
 have hw:Region.wanted o (yielded ops a.tmps)=true:=by simp[Region.wanted,hg]
 rw[if_pos hw]
 obtain⟨v',w',hrun,r1,r2,_,r4⟩:=run_append_own_at (P:=P) w B t o.type e i z size bytes h1 h2 h3 h4 h5 h6 h7 v n olds hown ad m c news hn hc h1c b1 b2 hB
 unfold Oper.wp
 simp[execOp,hop,resolve,invoke,builtin,hs,hx,hrun,Result.andThen]
 exact hK v' w' r1 r2 r4
def Jd (ls:List (List Nat))(i:Nat):List Nat:=ls.getD i []
theorem Q4e {ls:List (List Nat)}{i:Nat}(h:i<ls.length):Jd ls i∈ls:=by
 simp only[Jd,zD,zJ h]
 exact yN h
theorem Q1o {ls:List (List Nat)}{i:Nat}(h:i<ls.length):wd (ls.map Qb) i=Qb (Jd ls i):=by
 simp[wd,Jd,List.getD_eq_getElem?_getD,h]
theorem Ip {ls:List (List Nat)}{i:Nat}(h:i<ls.length):ls.take (i+1)=ls.take i++[Jd ls i]:=by
 rw[zR h]
 simp[Jd,List.getD_eq_getElem?_getD,h]
def V3 (es:List Eg)(ls ps:List (List Nat))(i j:Nat):List (List Nat):=Qy es (ls.take i) ps++Qy es [Jd ls i] (ps.take j)
theorem F7 (es:List Eg)(ls ps:List (List Nat))(i:Nat):V3 es ls ps i 0=Qy es (ls.take i) ps:=by simp[V3,Qy]
theorem Q6o {es:List Eg}{ls ps:List (List Nat)}{i j:Nat}(hj:j<ps.length)(h:hdL es (Jd ls i)=tlL es (Jd ps j)):V3 es ls ps i (j+1)=V3 es ls ps i j++[Jd ls i++Jd ps j]:=by
 unfold V3
 rw[Ip hj,yE]
 simp[Qy,h]
theorem Qaa {es:List Eg}{ls ps:List (List Nat)}{i j:Nat}(hj:j<ps.length)(h:hdL es (Jd ls i)≠tlL es (Jd ps j)):V3 es ls ps i (j+1)=V3 es ls ps i j:=by
 unfold V3
 rw[Ip hj]
 simp[Qy,h]
theorem Q6q {es:List Eg}{ls ps:List (List Nat)}{i:Nat}(hi:i<ls.length):V3 es ls ps i ps.length=V3 es ls ps (i+1) 0:=by
 rw[F7,Ip hi,Gi]
 unfold V3
 rw[zU]
theorem Gh (es:List Eg)(ls ps:List (List Nat)):(Qy es ls ps).length<=ls.length*ps.length:=by
 induction ls with
 |nil=>simp[Qy]
 |cons l ls ih=>
  rw[show l::ls=[l]++ls from rfl,Gi,zA,zA,Nat.add_mul]
  have:(Qy es [l] ps).length<=ps.length:=by
   simp only[Qy,List.flatMap_cons,List.flatMap_nil,List.append_nil,zG]
   exact yA _ _
  simp only[List.length_cons,List.length_nil]
  omega
theorem Q6p (es:List Eg){ls ps:List (List Nat)}{i j:Nat}(hi:i<ls.length)(hj:j<=ps.length):(V3 es ls ps i j).length<=ls.length*ps.length:=by
 unfold V3
 rw[zA]
 have h1:=Gh es (ls.take i) ps
 have h2:=Gh es [Jd ls i] (ps.take j)
 rw[yC,Nat.min_eq_left (by omega)] at h1
 rw[yC,Nat.min_eq_left (by omega),List.length_singleton,Nat.one_mul] at h2
 have h3:(i+1)*ps.length<=ls.length*ps.length:=Nat.mul_le_mul_right _ hi
 rw[Nat.add_mul] at h3
 omega
def U3 (m:Nat)(l:List Nat):Prop:=l≠[]/\l.length<=100000/\∀e∈l,e<m
theorem J6 (l:List Nat):(Qb l).length=l.length:=by simp[Qb]
theorem Q44 (l p:List Nat):Qb (l++p)=Qb l++Qb p:=by simp[Qb]
theorem Qcy {l:List Nat}(h:l≠[]):iat (Qb l) (l.length-1)=((l.getLastD 0:Nat):Int):=by
 have hp:0<l.length:=List.length_pos_iff.2 h
 rw[Vl (by rw[J6];omega)]
 simp only[Qb,List.getElem_map]
 rw[List.getLastD_eq_getLast?,List.getLast?_eq_getElem?,zJ (by omega)]
 rfl
theorem Qa9 {l:List Nat}(h:l≠[]):iat (Qb l) 0=((l.headD 0:Nat):Int):=by
 cases l with
 |nil=>exact absurd rfl h
 |cons a l=>rfl
theorem Qf3 {m:Nat}{l:List Nat}(h:U3 m l):l.getLastD 0<m:=by
 refine h.2.2 _ ?_
 rw[List.getLastD_eq_getLast?]
 cases e:l.getLast? with
 |none=>exact absurd (List.getLast?_eq_none_iff.1 e) h.1
 |some x=>exact List.mem_of_getLast? e
theorem Qf9 {m:Nat}{l:List Nat}(h:U3 m l):l.headD 0<m:=by
 cases l with
 |nil=>exact absurd rfl h.1
 |cons a l=>exact h.2.2 a (by simp)
theorem J7.at' {B:Nat}{w:World}{v:Value}{ws:List (List Int)}(h:J7 B w v ws){i:Nat}(hi:i<ws.length):∃b off c,v=sL (some (aD b off)) ws.length c/\b<w.heap.size/\∃vi,w.cell? (aD b (off+i))=some vi/\Q8 B w vi (wd ws i)/\Vw vi:=by
 obtain⟨a,cap,e,_,hk⟩:=h
 obtain⟨b,off,rfl,_,hb,hc⟩:=hk (by omega)
 exact⟨b,off,cap,e,hb,hc i hi⟩
end Go.Proofs.YtahpodmokbdjeaaGreatDoor
namespace Go.Proofs.YtahpodmokbdjeaaGreatDoor
open Go.RowKit Tryz
set_option linter.unusedVariables false
set_option maxRecDepth 1000000
set_option maxHeartbeats 16000000
theorem Va (w:World)(n:Nat):Nx w (w.drewN n):=below_drewN (Below.refl _ w) n
theorem Vh.at' {B:Nat}{w:World}{a:Option Addr}{n c:Nat}{es:List Eg}(h:Vh B w (sL a n c) es)(hp:0<es.length):n=es.length/\∃b off,a=some (aD b off)/\b<w.heap.size/\∀i,i<es.length->Ij w b (off+i*7) (eat es i):=by
 obtain⟨a',cap,e,_,hk⟩:=h
 simp only[zC] at e
 obtain⟨rfl,rfl,rfl⟩:=e
 obtain⟨b,off,e,_,hb,hc⟩:=hk hp
 exact⟨rfl,b,off,e,hb,hc⟩
theorem Ka (B B1 B2:Nat)(v0 v1 v2 v3 vl vp:Value)(R:Rd)(ls ps:List (List Nat))(w:World)(h0:Zq B w v0 v1 v2 v3 R)(hm:R.edges.length<=4000)(hl:J7 B1 w vl (ls.map Qb))(hp:J7 B2 w vp (ps.map Qb))(hgl:∀l∈ls,U3 R.edges.length l)(hgp:∀l∈ps,U3 R.edges.length l)(hL:ls.length<=1000000)(hP:ps.length<=10000) :
  Calls prog 103 #[.agg #[v0,v1,v2,v3],vl,vp] w λe w'=>(∃u,e=.returned u/\J9 w.heap.size w' u ((Qy R.edges ls ps).map Qb))/\Nx w w':=by
 obtain⟨ii,hi,hz0,hz1,hz2⟩:=info_parts P1
 obtain⟨a,cap,rfl,hml,hk⟩:=h0.2.1
 have HE:Z (Vh B w (sL a R.edges.length cap) R.edges):=h0.2.1
 clear h0 hk hml
 have HLW:Z (J7 B1 w vl (ls.map Qb)):=hl
 have HPW:Z (J7 B2 w vp (ps.map Qb)):=hp
 obtain⟨la,lc,rfl,_,_⟩:=hl
 obtain⟨pa,pc,rfl,_,_⟩:=hp
 have HGL:Z (∀l∈ls,U3 R.edges.length l):=hgl
 have HGP:Z (∀l∈ps,U3 R.edges.length l):=hgp
 clear hgl hgp
 generalize hes:R.edges=es at *
 clear hes
 simp only[zG] at *
 generalize hz:es.length=m at *
 have HZ:Z (es.length=m):=hz
 generalize hnl:ls.length=nl at *
 have HNL:Z (ls.length=nl):=hnl
 generalize hnp:ps.length=np at *
 have HNP:Z (ps.length=np):=hnp
 have HPROD:Z (nl*np<=10000000000):=zP (Nat.mul_le_mul hL hP) (by decide)
 clear hz hnl hnp
 have HB0:Z (Blk (w.alloc (.cells #[v0,sL a m cap,v2,v3] 52)) w.heap.size #[v0,sL a m cap,v2,v3]):=Blk.new w _ _ _ rfl
 have HX0:Z (Nx w (w.alloc (.cells #[v0,sL a m cap,v2,v3] 52))):=Q4 _ _
 go_enter func103,ntmps103
 go_upto_region 1 with fail
 generalize w.alloc (.cells #[v0,sL a m cap,v2,v3] 52)=w1 at *
 go_wp2
 go_loopw [7,8] (λu i wr=>∃k:Nat,k<=nl/\i=iV k/\Z (J9 w1.heap.size wr u ((V3 es ls ps k 0).map Qb))/\Z (Nx w1 wr)) (λ_ i _=>nl-(intOf i).toNat)
 case atStart=>exact⟨0,nZ,rfl,Iz w1.heap.size w1 lR,Q4 _ _⟩
 obtain⟨k,hkm,rfl,HO,HN⟩:=hrel
 by_cases hlt:k<nl
 case neg=>
  have ek:nl=k:=by omega
  subst ek
  have HF:Z (J9 w1.heap.size wr u7 ((Qy es ls ps).map Qb)):=by
   have:=HO.o
   rw[F7,<-HNL.o,zU] at this
   exact this
  clear HO hlt hkm
  go_wp2
  go_ret
  exact⟨⟨_,rfl,HF.o.base HX0.o.size⟩,HX0.o.trans HN.o⟩
 have hlt':(k:Int)<nl:=by omega
 have HKL:Z (k<ls.length):=by rw[HNL.o];exact hlt
 go_wp2
 go_loopw [7,9] (λu j wr=>∃q:Nat,q<=np/\j=iV q/\Z (J9 w1.heap.size wr u ((V3 es ls ps k q).map Qb))/\Z (Nx w1 wr)) (λ_ j _=>np-(intOf j).toNat)
 case atStart=>exact⟨0,nZ,rfl,HO,HN⟩
 clear HO HN
 obtain⟨q,hqm,rfl,HO,HN⟩:=hrel
 by_cases hq:q<np
 case neg=>
  have eq:np=q:=by omega
  subst eq
  have HF:Z (J9 w1.heap.size wr u7 ((V3 es ls ps (k+1) 0).map Qb)):=by
   have:=HO.o
   rw[<-HNP.o,Q6q HKL.o] at this
   exact this
  clear HO hq hqm
  go_wp2
  go_roundw
  case rel=>exact⟨k+1,by omega,by go_num,HF,HN⟩
  case measure=>simp[intOf];omega
 have hq':(q:Int)<np:=by omega
 have HQP:Z (q<ps.length):=by rw[HNP.o];exact hq
 have HGk:=HGL.o _ (Q4e HKL.o)
 have HGq:=HGP.o _ (Q4e HQP.o)
 have HLEN:Z (((V3 es ls ps k q).map Qb).length<=10000000000):=by
  unfold Z
  rw[zG]
  have h1:=Q6p es (ls:=ls) (ps:=ps) (i:=k) (j:=q) HKL.o (by rw[HNP.o];omega)
  rw[HNL.o,HNP.o] at h1
  exact zP h1 HPROD.o
 have HYES:Z (hdL es (Jd ls k)=tlL es (Jd ps q)->(V3 es ls ps k (q+1)).map Qb=(V3 es ls ps k q).map Qb++[Qb (Jd ls k)++Qb (Jd ps q)]):=λh=>by rw[Q6o HQP.o h,yL,<-Q44];rfl
 have HNO:Z (hdL es (Jd ls k)≠tlL es (Jd ps q)->V3 es ls ps k (q+1)=V3 es ls ps k q):=λh=>Qaa HQP.o h
 have HHD:Z (hdL es (Jd ls k)=(eat es ((Jd ls k).getLastD 0)).head):=rfl
 have HTL:Z (tlL es (Jd ps q)=(eat es ((Jd ps q).headD 0)).tail):=rfl
 generalize hll:Jd ls k=l at *
 generalize hpp:Jd ps q=p at *
 obtain⟨bl,ol,cl,el,hbl,vi,hvi,hvI,hcI⟩:=HLW.o.at' (i:=k) (by rw[zG,HNL.o];exact hlt)
 obtain⟨bp,op,cp,ep,hbp,vj,hvj,hvJ,hcJ⟩:=HPW.o.at' (i:=q) (by rw[zG,HNP.o];exact hq)
 rw[Q1o HKL.o,hll] at hvI
 rw[Q1o HQP.o,hpp] at hvJ
 simp only[zC] at el ep
 obtain⟨rfl,el2,rfl⟩:=el
 obtain⟨rfl,ep2,rfl⟩:=ep
 clear el2 ep2
 have HVI:Z (Q8 B1 w vi (Qb l)):=hvI
 have HVJ:Z (Q8 B2 w vj (Qb p)):=hvJ
 obtain⟨lm,hlm⟩:∃lm,l.length=lm+1:=⟨l.length-1,by have:=List.length_pos_iff.2 HGk.1;omega⟩
 obtain⟨pm,hpm⟩:∃pm,p.length=pm+1:=⟨p.length-1,by have:=List.length_pos_iff.2 HGq.1;omega⟩
 have hlm5:lm<=100000:=by have:=HGk.2.1;omega
 obtain⟨ai,ci,rfl,hmi,hki⟩:=hvI
 obtain⟨aj,cj,rfl,hmj,hkj⟩:=hvJ
 rw[J6] at hki hkj hvi hvj
 obtain⟨bi,oi,rfl,_,hbi,hci⟩:=hki (by omega)
 obtain⟨bj,oj,rfl,_,hbj,hcj⟩:=hkj (by omega)
 have HLI:=Qf3 HGk
 have HHJ:=Qf9 HGq
 have y1:w.cell? (aD bi (oi+lm))=some (iV ((l.getLastD 0:Nat):Int)):=by
  have:=hci lm (by omega)
  rw[show lm=l.length-1 by omega,Qcy HGk.1] at this
  rw[show lm=l.length-1 by omega]
  exact this
 have y2:w.cell? (aD bj oj)=some (iV ((p.headD 0:Nat):Int)):=by
  have:=hcj 0 (by omega)
  dsimp only at this
  rw[Qa9 HGq.1] at this
  exact this
 obtain⟨ez2,be,oe,rfl,hbe,hce⟩:=HE.o.at' (by rw[HZ.o];omega)
 clear ez2
 have z1:=(hce _ (by rw[HZ.o];exact HLI)).2.1
 have z2:=(hce _ (by rw[HZ.o];exact HHJ)).1
 generalize l.getLastD 0=x at *
 generalize p.headD 0=y at *
 rw[hlm] at hvi
 rw[hpm] at hvj
 have HVI2:Z (Q8 B1 w (sL (some (aD bi oi)) (lm+1) ci) (Qb l)):=by have:=HVI.o;rw[J6,hlm] at this;exact this
 have HVJ2:Z (Q8 B2 w (sL (some (aD bj oj)) (pm+1) cj) (Qb p)):=by have:=HVJ.o;rw[J6,hpm] at this;exact this
 have HLL:Z ((Qb l).length<=100000/\(Qb p).length<=100000):=⟨by rw[J6];exact HGk.2.1,by rw[J6];exact HGq.2.1⟩
 clear hci hcj hki hkj hce hmi hmj HVI HVJ hcI hcJ hlm hpm hll hpp HGk HGq hbl hbp hbi hbj hbe
 have HXw:Z (Nx w wr):=HX0.o.trans HN.o
 have r0:=(HB0.o.next HN.o).c 1 rfl
 have a1:=Q1 HXw.o hvi
 have a2:=Q1 HXw.o hvj
 have a3:=Q1 HXw.o y1
 have a4:=Q1 HXw.o y2
 have a5:=Q1 HXw.o z1
 have a6:=Q1 HXw.o z2
 have hx':(x:Int)<m:=by omega
 have hy':(y:Int)<m:=by omega
 have hlm':(lm:Int)<(lm:Int)+1:=by omega
 have hpm':(0:Int)<(pm:Int)+1:=by omega
 have HC1:Z (w.cell? (aD bl (ol+k))=some (sL (some (aD bi oi)) (lm+1) ci)):=hvi
 have HC2:Z (w.cell? (aD bp (op+q))=some (sL (some (aD bj oj)) (pm+1) cj)):=hvj
 clear hvi hvj y1 y2 z1 z2
 go_upto_region 8 with fail
 go_quiet (fail)
 have HDQ:Z (Nx wr (wr.drewN nq)):=Va _ _
 generalize wr.drewN nq=wq at *
 have b0:=Q1 HDQ.o r0
 have b1:=Q1 HDQ.o a1
 have b2:=Q1 HDQ.o a2
 have b4:=Q1 HDQ.o a4
 have b5:=Q1 HDQ.o a5
 have b6:=Q1 HDQ.o a6
 have HOQ:Z (J9 w1.heap.size wq u7 ((V3 es ls ps k q).map Qb)):=HO.o.next HDQ.o
 have HNQ:Z (Nx w1 wq):=HN.o.trans HDQ.o
 have HXQ:Z (Nx w wq):=HXw.o.trans HDQ.o
 clear r0 a1 a2 a3 a4 a5 a6 HO HN
 generalize (eat es x).head=hd at *
 generalize (eat es y).tail=td at *
 by_cases hj:hd=td
 case neg=>
  have g1:(hd==td)=false:=by simpa using hj
  have HE2:Z (V3 es ls ps k (q+1)=V3 es ls ps k q):=HNO.o (by rw[HHD.o,HTL.o];exact hj)
  clear hj
  go_upto_region 10 with fail
  go_quiet (fail)
  have HDQ2:Z (Nx wq (wq.drewN nq)):=Va _ _
  generalize wq.drewN nq=wz at *
  clear b0 b1 b2 b4 b5 b6
  go_wp2
  go_roundw
  case rel=>exact⟨q+1,by omega,by go_num,by rw[HE2.o];exact HOQ.o.next HDQ2.o,HNQ.o.trans HDQ2.o⟩
  case measure=>simp[intOf];omega
 have g1:(hd==td)=true:=by simpa using hj
 have HES:Z ((V3 es ls ps k (q+1)).map Qb=(V3 es ls ps k q).map Qb++[Qb l++Qb p]):=HYES.o (by rw[HHD.o,HTL.o];exact hj)
 clear hj
 go_upto_region 10 with fail
 go_quiet (fail)
 have HDQ2:Z (Nx wq (wq.drewN nq)):=Va _ _
 generalize wq.drewN nq=wz at *
 have c1:=Q1 HDQ2.o b1
 have c2:=Q1 HDQ2.o b2
 have HOZ:Z (J9 w1.heap.size wz u7 ((V3 es ls ps k q).map Qb)):=HOQ.o.next HDQ2.o
 have HNZ:Z (Nx w1 wz):=HNQ.o.trans HDQ2.o
 have HXZ:Z (Nx w wz):=HXQ.o.trans HDQ2.o
 have HSZ:Z (w1.heap.size<=wz.heap.size):=HNZ.o.size
 clear b0 b1 b2 b4 b5 b6 HOQ HNQ HXQ HDQ HDQ2
 generalize (V3 es ls ps k q).map Qb=ws at *
 obtain⟨ua,uc,hus⟩:=HOZ.o.slice
 subst hus
 generalize hwl:ws.length=wl at *
 have HWL:Z (ws.length=wl):=hwl
 have hwl4:wl<=10000000000:=HLEN.o
 clear hwl
 have HVIZ:Z (Q8 B1 wz (sL (some (aD bi oi)) (lm+1) ci) (Qb l)):=HVI2.o.next HXZ.o
 have HVJZ:Z (Q8 B2 wz (sL (some (aD bj oj)) (pm+1) cj) (Qb p)):=HVJ2.o.next HXZ.o
 go_wp2
 go_region_held3 (λw'=>w'.cell? (aD bl (ol+k))=some (sL (some (aD bi oi)) (lm+1) ci)/\w'.cell? (aD bp (op+q))=some (sL (some (aD bj oj)) (pm+1) cj)) (first|exact⟨t1,t2⟩|exact⟨Q1 (Q4 _ _) t1,Q1 (Q4 _ _) t2⟩|(go_keep;done)) (first|(go_at_call 65;refine(Zx B1 B2 _ _ (Qb l) (Qb p) _ (by exact HVIZ.o.next (Below.refl _ _).drew) (by exact HVJZ.o.next (Below.refl _ _).drew) (by have:=HLL.o;omega) (by have:=HLL.o;omega)).mono ?_;rintro e w5 ⟨⟨u5,rfl,hO5⟩,hx5⟩;have HX5:Z (Nx wz w5):=(Below.refl _ _).drew.trans hx5;have HO5:Z (Qd w1.heap.size w5 u5 (Qb l++Qb p)):=hO5.base HSZ.o;have HOZ5:Z (J9 w1.heap.size w5 (sL ua wl uc) ws):=HOZ.o.next HX5.o;have t1:=Q1 HX5.o c1;have t2:=Q1 HX5.o c2;obtain⟨ub,ud,hub⟩:=HO5.o.slice;generalize (Qb l++Qb p).length=un at hub;subst hub;obtain⟨cs5,hrow5,hwd5⟩:=HOZ5.o;have HROW5:Z (w5.ownsRow w1.heap.size 119 1 (sL ua wl uc) ws.length cs5):=hrow5;have HWD5:Z (∀i,i<ws.length->Qd w1.heap.size w5 (vat cs5 i) (wd ws i)):=hwd5;have HS5:Z (w1.heap.size<=w5.heap.size):=zP HSZ.o HX5.o.size;have HN5:Z (Nx w1 w5):=HNZ.o.trans HX5.o;clear hO5 hx5 hrow5 hwd5)|(refine V9 rfl (.tmp 59) (.tmp 72) 65 rfl 119 ii (.agg #[sN]) 1 24 underlying65 hi hz0 hz1 hz2 rfl (by decide) w1.heap.size (sL ua wl uc) ws.length cs5 (by simp[Act.eval]) (zB HROW5.o _) (aD w5.heap.size 0) 1 1 [sL ub un ud] (by simp[Act.eval]) rfl (λj u hj=>Ql w5 _ _ _ rfl j u hj) (by intro u hu;simp at hu;subst hu;rfl) (by rw[HWL.o];unfold maxLen;omega) (by rw[HWL.o];omega) (by rw[Q3];have:=HS5.o;omega) ?_;intro v7 w7 hown hgrow hat;have HO7:Z (J9 w1.heap.size w7 v7 (ws++[Qb l++Qb p])):=J9.snoc HROW5.o HWD5.o HO5.o _ hgrow hown;have HN7:Z (Nx w1 w7):=Below.grown (HN5.o.alloc _) hgrow (by rw[Q3];have:=HS5.o;omega) (λg hg=>(Q5 HROW5.o g hg).1);have t1:=Q1 (HX0.o.trans HN7.o) HC1.o;have t2:=Q1 (HX0.o.trans HN7.o) HC2.o;clear hown hgrow hat))
 all_goals
  go_wp2
  go_roundw
  case rel=>exact⟨q+1,by omega,by go_num,by rw[HES.o];exact HO7.o,HN7⟩
  case measure=>simp[intOf];omega
def wpos (xs:List Wy)(id:Int):Nat:=xs.findIdx λx=>x.id==id
theorem Qe1 {xs:List Wy}{id:Int}{k:Nat}(hk:k<xs.length)(h:(wat xs k).id=id)(hn:Q6h xs id k):wpos xs id=k:=by
 unfold wpos
 rw[List.findIdx_eq hk]
 refine⟨by rw[<-Im hk];simpa using h,λj hj=>?_⟩
 have:=hn j hj
 rw[Im (by omega)] at this
 simpa using this
theorem Xu {xs:List Wy}{id:Int}(h:Ju xs id=true):wpos xs id<xs.length:=by
 unfold wpos Ju at *
 exact List.findIdx_lt_length.2 (by simpa using List.any_eq_true.1 h)
theorem Q7j {xs:List Wy}{id:Int}(h:Ju xs id=true):(wat xs (wpos xs id)).id=id:=by
 have hl:=Xu h
 have h2:(xs[wpos xs id].id==id)=true:=List.findIdx_getElem (p:=λx:Wy=>x.id==id) (xs:=xs) (w:=hl)
 rw[Im hl]
 simpa using h2
theorem Qbh {a b:Nat}(h:b=a):Ending.returned (iV (a:Int))=.returned (iV (b:Int)):=by rw[h]
theorem P0 (B:Nat)(v0 v1 v2 v3:Value)(u id:Int)(xs:List Wy)(w:World)(h0:Jy B w v1 xs)(hh:Ju xs id=true) :
  Calls prog 55 #[.agg #[v0,v1,v2,v3,iV u],iV id] w λe w'=>e=.returned (iV (wpos xs id:Int))/\Nx w w':=by
 obtain⟨a,cap,rfl,hn,hk⟩:=h0
 unfold maxLen at hn
 have HH:Z (Ju xs id=true):=hh
 clear hh
 generalize hz:xs.length=n at *
 have HZ:Z (xs.length=n):=hz
 clear hz
 go_enter func55,ntmps55
 go_wp2
 go_loop [5] (λi=>∃k:Nat,k<=n/\i=iV k/\Z (Q6h xs id k)) (λi=>n-(intOf i).toNat)
 case atStart=>exact⟨0,nZ,rfl,Q11 _ _⟩
 case round=>
  obtain⟨k,hkn,rfl,hrel⟩:=hrel
  by_cases hlt:k<n
  ·obtain⟨b,off,rfl,hB,hb,hc⟩:=hk (by omega)
   obtain⟨vn,vw,hcc,_⟩:=hc k hlt
   clear hc hk
   go_wp2
   ·go_ret
    exact⟨Qbh (Qe1 (by rw[HZ.o];exact hlt) (by simpa using(show((wat xs k).id==id)=true by assumption)) hrel.o),(Below.refl _ _).alloc lR _⟩
   ·go_round
    case rel=>exact⟨k+1,by omega,by go_num,Q12 hrel (by assumption)⟩
    case measure=>simp[intOf];omega
  ·exfalso
   have:=Fm (xs:=xs) (id:=id) (k:=k) (by rw[HZ.o];omega) hrel.o
   rw[HH.o] at this
   cases this
def Ve (l:List Nat):List (List Nat):=l.map λe=>[e]
theorem Q0y (l:List Nat):ones l=(Ve l).map Qb:=by simp[ones,Ve,Qb]
theorem Iv {es:List Eg}{i:Int}:∀l∈Ve (Jl es i es.length),U3 es.length l:=by
 intro l hl
 obtain⟨e,he,rfl⟩:=List.mem_map.1 hl
 refine⟨by simp,by simp,λx hx=>?_⟩
 have:x=e:=by simpa using hx
 subst this
 unfold Jl at he
 exact List.mem_range.1 (List.mem_filter.1 he).1
theorem Uk (l:List Nat):(Ve l).length=l.length:=by simp[Ve]
theorem Zr {N:Nt}{es:List Eg}{i:Nat}(hm:es.length<=4000)(h1:Vy es i es.length≠[])(h2:(wat N.ways i).both=true->Xt es i es.length≠[]):∀l∈Jm N es i,U3 es.length l/\l.length<=4000:=by
 have a1:U3 es.length (Vy es i es.length)/\(Vy es i es.length).length<=4000:=by
  have:=Q3e es i es.length
  rw[J6] at this
  exact⟨⟨h1,by omega,λe he=>by unfold Vy at he;exact List.mem_range.1 (List.mem_filter.1 he).1⟩,by omega⟩
 intro l hl
 unfold Jm at hl
 rcases List.mem_append.1 hl with g|g
 ·have:l=Vy es i es.length:=by simpa using g
  rw[this];exact a1
 ·by_cases hb:(wat N.ways i).both=true
  ·rw[if_pos hb] at g
   have:l=Xt es i es.length:=by simpa using g
   have hl:=Q5k es i es.length
   rw[J6] at hl
   rw[this]
   exact⟨⟨h2 hb,by omega,λe he=>by unfold Xt at he;exact List.mem_range.1 (List.mem_filter.1 (List.mem_reverse.1 he)).1⟩,by omega⟩
  ·rw[if_neg hb] at g
   simp at g
theorem Q0k (N:Nt)(es:List Eg)(i:Nat):(Jm N es i).length<=2:=by
 unfold Jm
 split<;>simp
theorem A8 {es:List Eg}{m c d:Nat}{ls ps:List (List Nat)}(h1:∀l∈ls,U3 m l/\l.length<=c)(h2:∀l∈ps,U3 m l/\l.length<=d)(hc:c+d<=100000):∀l∈Qy es ls ps,U3 m l/\l.length<=c+d:=by
 intro q hq
 unfold Qy at hq
 obtain⟨l,hl,hq⟩:=List.mem_flatMap.1 hq
 obtain⟨p,hp,rfl⟩:=List.mem_map.1 hq
 have hp':=(List.mem_filter.1 hp).1
 have e1:=h1 l hl
 have e2:=h2 p hp'
 refine⟨⟨by simp[e1.1.1],by rw[zA];omega,λe he=>?_⟩,by rw[zA];omega⟩
 rcases List.mem_append.1 he with g|g
 ·exact e1.1.2.2 e g
 ·exact e2.1.2.2 e g
def Qt (N:Nt)(es:List Eg)(r:Rl):List Nat:=Jl es (wpos N.ways r.frm) es.length
def Qx (N:Nt)(es:List Eg)(r:Rl):List Nat:=Jl es (wpos N.ways r.to) es.length
def V4 (nodes:List Int)(es:List Eg)(node:Int)(e:Nat):Bool:=decide (iat nodes (eat es e).head.toNat=node)
def Z7 (N:Nt)(es:List Eg)(r:Rl)(k:Nat):List (List Nat):=Jc es (Ve (Qt N es r)) ((r.ways.take k).map λid=>Jm N es (wpos N.ways id))
def Xw (N:Nt)(nodes:List Int)(es:List Eg)(r:Rl):List (List Nat):=
 if r.via then Qy es (Ve ((Qt N es r).filter (V4 nodes es r.node))) (Ve (Qx N es r)) else Qy es (Z7 N es r r.ways.length) (Ve (Qx N es r))
theorem A2 {N:Nt}{es:List Eg}{r:Rl}{k:Nat}(hk:k<r.ways.length):Z7 N es r (k+1)=Qy es (Z7 N es r k) (Jm N es (wpos N.ways (iat r.ways k))):=by
 unfold Z7 Jc
 rw[zR hk,yL,List.foldl_append,Vl hk]
 rfl
theorem J9.at {C:Nat}{w:World}{a:Option Addr}{n c:Nat}{ws:List (List Int)}(h:J9 C w (sL a n c) ws){i:Nat}(hi:i<ws.length):∃g u,a=some (aD g 0)/\w.cell? (aD g i)=some u/\Qd C w u (wd ws i):=by
 obtain⟨cs,h1,h2⟩:=h
 obtain⟨h3,h4⟩:=h1
 rw[Nat.mul_one] at h3
 rcases h4 with⟨_,h4⟩|⟨g,cap,cur,e,hg,hh,hc,hm,hs,ht⟩
 ·omega
 ·simp only[zC] at e
  refine⟨g,vat cs i,e.1,?_,h2 i hi⟩
  have e:(cur.toList.take (ws.length*1))[i]?=cs[i]?:=by rw[ht]
  rw[zT (by omega),zQ] at e
  simp[World.cell?,hh,e,vat,List.getD,show i<cs.length by omega]
theorem Jy.next {B:Nat}{w w':World}{v:Value}{xs:List Wy}(h:Jy B w v xs)(k:Nx w w'):Jy B w' v xs:=h.keep (k.keeps B)
def Fc (C D:Nat)(w:World)(v:Value)(ws:List (List Int)):Prop:=
 ∃cs:List Value,w.ownsRow C 119 1 v ws.length cs/\∀i,i<ws.length->Qd D w (vat cs i) (wd ws i)
theorem Fc.next {C D:Nat}{w w':World}{v:Value}{ws:List (List Int)}(h:Fc C D w v ws)(k:Nx w w'):Fc C D w' v ws:=by
 obtain⟨cs,h1,h2⟩:=h
 refine⟨cs,?_,λi hi=>(h2 i hi).next k⟩
 obtain⟨h3,h4⟩:=h1
 refine⟨h3,?_⟩
 rcases h4 with h4|⟨g,cap,cur,hv,hg,hh,r⟩
 ·exact oL h4
 ·exact oR ⟨g,cap,cur,hv,hg,(k.block g (Array.getElem?_eq_some_iff.1 hh).1).trans hh,r⟩
theorem Fc.own {C D:Nat}{w:World}{v:Value}{ws:List (List Int)}(h:Fc C D w v ws)(hD:D<=C):J9 D w v ws:=by
 obtain⟨cs,h1,h2⟩:=h
 refine⟨cs,?_,h2⟩
 obtain⟨h3,h4⟩:=h1
 refine⟨h3,?_⟩
 rcases h4 with h4|⟨g,cap,cur,hv,hg,r⟩
 ·exact oL h4
 ·exact oR ⟨g,cap,cur,hv,by omega,r⟩
theorem Q9w (D:Nat)(w:World):Fc w.heap.size D (w.alloc (.cells #[] 119)) (sL (sA w.heap.size) 0 0) []:=
 ⟨[],⟨rfl,.inr ⟨w.heap.size,0,#[],rfl,lR,by show(w.heap.push _)[w.heap.size]?=_;simp,lR,by simp[maxLen],by simp,by simp⟩⟩,λi hi=>absurd hi (zM _)⟩
theorem Fc.snoc {C D:Nat}{w w':World}{v v' u:Value}{ws:List (List Int)}{x:List Int}{cs:List Value}(h1:w.ownsRow C 119 1 v ws.length cs)(h2:∀i,i<ws.length->Qd D w (vat cs i) (wd ws i))
  (hu:Qd D w u x) (ho:Obj) (hg:(w.alloc ho).grownBy w' v.ownBlock) (hn:w'.ownsRow C 119 1 v' (ws.length+1) (cs++[u])):Fc C D w' v' (ws++[x]):=by
 have hl:cs.length=ws.length:=by have:=h1.1;omega
 have kept:∀{z:Value}{zs:List Int},Qd D w z zs->Qd D w' z zs:=λ{z zs} hz=>zN (zB hz ho) hg (Xr hz h1 (by decide))
 refine⟨cs++[u],by rw[zA];exact hn,λi hi=>?_⟩
 rw[zA,List.length_singleton] at hi
 by_cases e:i<ws.length
 ·rw[Uy e]
  have:vat (cs++[u]) i=vat cs i:=by simp[vat,List.getD,List.getElem?_append_left (show i<cs.length by omega)]
  rw[this]
  exact kept (h2 i e)
 ·have e':i=ws.length:=by omega
  rw[Fy e']
  have:vat (cs++[u]) i=u:=by rw[e',<-hl];simp[vat,List.getD]
  rw[this]
  exact kept hu
theorem Qeh {F:List Nat}{k:Nat}(hk:k<F.length):wd ((Ve F).map Qb) k=[((F.getD k 0:Nat):Int)]:=by
 simp[wd,Ve,Qb,List.getD_eq_getElem?_getD,hk]
theorem Qd8 {F:List Nat}{p:Nat->Bool}{k:Nat}(hk:k<F.length)(h:p (F.getD k 0)=true):(Ve ((F.take (k+1)).filter p)).map Qb=(Ve ((F.take k).filter p)).map Qb++[[((F.getD k 0:Nat):Int)]]:=by
 have e:F.getD k 0=F[k]:=by simp[List.getD_eq_getElem?_getD,hk]
 rw[e] at h ⊢
 rw[zR hk,zZ]
 simp[Ve,Qb,h]
theorem Qfe {F:List Nat}{p:Nat->Bool}{k:Nat}(hk:k<F.length)(h:p (F.getD k 0)=false):(F.take (k+1)).filter p=(F.take k).filter p:=by
 have e:F.getD k 0=F[k]:=by simp[List.getD_eq_getElem?_getD,hk]
 rw[e] at h
 rw[zR hk,zZ]
 simp[h]
structure Q5u (N:Nt)(R:Rd)(r:Rl):Prop where
 frm:Ju N.ways r.frm=true
 dst:Ju N.ways r.to=true
 len:r.ways.length<=4
 ways:∀k,k<r.ways.length->Ju N.ways (iat r.ways k)=true
 th:∀i,i<N.ways.length->Vy R.edges i R.edges.length≠[]/\((wat N.ways i).both=true->Xt R.edges i R.edges.length≠[])
 hd:∀e,e<R.edges.length->0<=(eat R.edges e).head/\(eat R.edges e).head<R.nodes.length
theorem A6 {N:Nt}{R:Rd}{r:Rl}(h:Q5u N R r)(hm:R.edges.length<=4000):∀k,k<=r.ways.length->(∀l∈Z7 N R.edges r k,U3 R.edges.length l/\l.length<=1+4000*k)/\(Z7 N R.edges r k).length<=4000*2 ^ k
 |0,_=>by
  refine⟨λl hl=>?_,?_⟩
  ·have hl':l∈Ve (Qt N R.edges r):=hl
   refine⟨Iv l hl',?_⟩
   obtain⟨e,_,rfl⟩:=List.mem_map.1 hl'
   simp
  ·show(Ve (Qt N R.edges r)).length<=_
   rw[Uk]
   have:=Ku R.edges (wpos N.ways r.frm) R.edges.length
   unfold Qt
   omega
 |k+1,hk=>by
  obtain⟨h1,h2⟩:=A6 h hm k (by omega)
  have hw:=Xu (h.ways k (by omega))
  have ht:=h.th _ hw
  have h3:=Zr (N:=N) hm ht.1 ht.2
  have hk4:=h.len
  rw[A2 (by omega)]
  refine⟨λl hl=>?_,?_⟩
  ·have:=A8 h1 h3 (by omega) l hl
   exact⟨this.1,by omega⟩
  ·have a1:=Gh R.edges (Z7 N R.edges r k) (Jm N R.edges (wpos N.ways (iat r.ways k)))
   have a2:=Q0k N R.edges (wpos N.ways (iat r.ways k))
   have a3:=Nat.mul_le_mul h2 a2
   rw[Nat.pow_succ]
   omega
theorem Q2f (B0 B Bw:Nat)(n0 n1 n2 n3:Value)(N:Nt)(v0 v1 v2 v3:Value)(R:Rd)(r:Rl)(vw:Value)(w:World)(hN:Ye B0 w n0 n1 n2 n3 N)(h0:Zq B w v0 v1 v2 v3 R)(hw:Q8 Bw w vw r.ways)(hm:R.edges.length<=4000)(hR:Q5u N R r) :
  Calls prog 63 #[.agg #[n0,n1,n2,n3,iV N.uturn],.agg #[v0,v1,v2,v3],.agg #[iV r.id,.bool r.only,iV r.frm,iV r.to,.bool r.via,iV r.node,vw]] w λe w'=>(∃u,e=.returned u/\J9 w.heap.size w' u ((Xw N R.nodes R.edges r).map Qb))/\Nx w w':=by
 obtain⟨ii,hi,hz0,hz1,hz2⟩:=info_parts P1
 have HNET:Z (Ye B0 w n0 n1 n2 n3 N):=hN
 have HROAD:Z (Zq B w v0 v1 v2 v3 R):=h0
 have HW:Z (Q8 Bw w vw r.ways):=hw
 have HR:Z (Q5u N R r):=hR
 clear hN h0 hR
 obtain⟨a0,q0,e0,jm,jk⟩:=HNET.o.1
 clear jm jk
 obtain⟨a1,q1,e1,jm,jk⟩:=HNET.o.2.1
 clear jm jk
 obtain⟨a2,q2,e2,jm,jk⟩:=HNET.o.2.2.1
 clear jm jk
 obtain⟨a3,q3,e3,jm,jk⟩:=HNET.o.2.2.2
 clear jm jk
 generalize N.nodes.length=l0 at e0
 generalize N.ways.length=l1 at e1
 generalize N.rels.length=l2 at e2
 generalize N.turns.length=l3 at e3
 obtain⟨a4,q4,e4,jm,jk⟩:=HROAD.o.1
 clear jm jk
 obtain⟨a5,q5,e5,jm,jk⟩:=HROAD.o.2.1
 clear jm jk
 obtain⟨a6,q6,e6,jm,jk⟩:=HROAD.o.2.2.1
 clear jm jk
 obtain⟨a7,q7,e7,jm,jk⟩:=HROAD.o.2.2.2
 clear jm jk
 generalize R.nodes.length=l4 at e4
 generalize R.edges.length=l5 at e5
 generalize R.first.length=l6 at e6
 generalize R.o.length=l7 at e7
 obtain⟨aw,qw,ew,jm,jk⟩:=hw
 clear jm jk
 generalize r.ways.length=lw at ew
 subst e0 e1 e2 e3 e4 e5 e6 e7 ew
 generalize hW1:((w.alloc (.cells #[sL a0 l0 q0,sL a1 l1 q1,sL a2 l2 q2,sL a3 l3 q3,iV N.uturn] 38)).alloc (.cells #[sL a4 l4 q4,sL a5 l5 q5,sL a6 l6 q6,sL a7 l7 q7] 52)).alloc (.cells #[iV r.id,.bool r.only,iV r.frm,iV r.to,.bool r.via,iV r.node,sL aw lw qw] 111)=w1
 have HX1:Z (Nx w w1):=by rw[<-hW1];exact(Zk _ _ _).alloc _
 have BN:Z (Blk w1 w.heap.size #[sL a0 l0 q0,sL a1 l1 q1,sL a2 l2 q2,sL a3 l3 q3,iV N.uturn]):=by rw[<-hW1];exact((Blk.new w _ _ _ rfl).alloc _).alloc _
 have BR:Z (Blk w1 (w.heap.size+1) #[sL a4 l4 q4,sL a5 l5 q5,sL a6 l6 q6,sL a7 l7 q7]):=by rw[<-hW1];exact(Blk.new _ _ _ _ (by rw[Q3])).alloc _
 have BL:Z (Blk w1 (w.heap.size+2) #[iV r.id,.bool r.only,iV r.frm,iV r.to,.bool r.via,iV r.node,sL aw lw qw]):=by rw[<-hW1];exact Blk.new _ _ _ _ (by rw[Q3,Q3])
 go_enter func63,ntmps63
 go_upto_region 1 with fail
 clear hW1
 have HFR:=HR.o.frm
 have HTO:=HR.o.dst
 have HX11:Z (Nx w1 w1):=Below.refl _ _
 have k0:w1.cell? (aD w.heap.size 0)=some (sL a0 l0 q0):=(BN.o.next (Below.refl _ _)).c 0 rfl
 have k1:w1.cell? (aD w.heap.size 1)=some (sL a1 l1 q1):=(BN.o.next (Below.refl _ _)).c 1 rfl
 have k2:w1.cell? (aD w.heap.size 2)=some (sL a2 l2 q2):=(BN.o.next (Below.refl _ _)).c 2 rfl
 have k3:w1.cell? (aD w.heap.size 3)=some (sL a3 l3 q3):=(BN.o.next (Below.refl _ _)).c 3 rfl
 have k4:w1.cell? (aD w.heap.size 4)=some (iV N.uturn):=(BN.o.next (Below.refl _ _)).c 4 rfl
 have k5:w1.cell? (aD (w.heap.size+1) 0)=some (sL a4 l4 q4):=(BR.o.next (Below.refl _ _)).c 0 rfl
 have k6:w1.cell? (aD (w.heap.size+1) 1)=some (sL a5 l5 q5):=(BR.o.next (Below.refl _ _)).c 1 rfl
 have k7:w1.cell? (aD (w.heap.size+1) 2)=some (sL a6 l6 q6):=(BR.o.next (Below.refl _ _)).c 2 rfl
 have k8:w1.cell? (aD (w.heap.size+1) 3)=some (sL a7 l7 q7):=(BR.o.next (Below.refl _ _)).c 3 rfl
 have kf:=BL.o.c 2 rfl
 go_region_held3 (λw'=>w'.cell? (aD w.heap.size 0)=some (sL a0 l0 q0)/\w'.cell? (aD w.heap.size 1)=some (sL a1 l1 q1)/\w'.cell? (aD w.heap.size 2)=some (sL a2 l2 q2)/\w'.cell? (aD w.heap.size 3)=some (sL a3 l3 q3)/\w'.cell? (aD w.heap.size 4)=some (iV N.uturn)/\w'.cell? (aD (w.heap.size+1) 0)=some (sL a4 l4 q4)/\w'.cell? (aD (w.heap.size+1) 1)=some (sL a5 l5 q5)/\w'.cell? (aD (w.heap.size+1) 2)=some (sL a6 l6 q6)/\w'.cell? (aD (w.heap.size+1) 3)=some (sL a7 l7 q7)/\w'.cell? (aD (w.heap.size+2) 2)=some (iV r.frm)) (first|exact⟨Q1 HXbw2.o k0,Q1 HXbw2.o k1,Q1 HXbw2.o k2,Q1 HXbw2.o k3,Q1 HXbw2.o k4,Q1 HXbw2.o k5,Q1 HXbw2.o k6,Q1 HXbw2.o k7,Q1 HXbw2.o k8,Q1 HXbw2.o kf⟩|exact⟨Q1 HXaw2.o k0,Q1 HXaw2.o k1,Q1 HXaw2.o k2,Q1 HXaw2.o k3,Q1 HXaw2.o k4,Q1 HXaw2.o k5,Q1 HXaw2.o k6,Q1 HXaw2.o k7,Q1 HXaw2.o k8,Q1 HXaw2.o kf⟩|(go_keep;done)) (first|(go_at_call 55;refine(P0 B0 _ _ _ _ _ _ N.ways _ (by exact HNET.o.2.1.next (HX1.o.trans (Below.refl _ _).drew)) HFR).mono ?_;rintro e waw2 ⟨rfl,hxa⟩;have HXaw2:Z (Nx w1 waw2):=(Below.refl _ _).drew.trans hxa;clear hxa)|(go_at_call 102;refine(Q4j B _ _ _ _ R _ _ (by exact HROAD.o.next (HX1.o.trans HXaw2.o)) hm).mono ?_;rintro e w2 ⟨⟨uf,rfl,hOuf⟩,hxb⟩;have HXbw2:Z (Nx w1 w2):=HXaw2.o.trans hxb;have HOuf:Z (J9 w1.heap.size w2 uf (ones (Jl R.edges (wpos N.ways r.frm) R.edges.length))):=hOuf.base (by have:=HX11.o.size;have:=HXaw2.o.size;omega);clear hOuf hxb))
 have HXw2:Z (Nx w w2):=HX1.o.trans HXbw2.o
 have HX1w2:Z (Nx w1 w2):=HXbw2.o
 have HLF:Z (ones (Jl R.edges (wpos N.ways r.frm) R.edges.length)=(Ve (Qt N R.edges r)).map Qb):=Q0y _
 have HLT:Z (ones (Jl R.edges (wpos N.ways r.to) R.edges.length)=(Ve (Qx N R.edges r)).map Qb):=Q0y _
 obtain⟨fa,fc,hfe⟩:=HOuf.o.slice
 generalize hfl:(ones (Jl R.edges (wpos N.ways r.frm) R.edges.length)).length=fl at hfe
 have HFL:Z ((ones (Jl R.edges (wpos N.ways r.frm) R.edges.length)).length=fl):=hfl
 subst hfe
 clear k0 k1 k2 k3 k4 k5 k6 k7 k8 kf hfl
 have k0:w2.cell? (aD w.heap.size 0)=some (sL a0 l0 q0):=(BN.o.next HX1w2.o).c 0 rfl
 have k1:w2.cell? (aD w.heap.size 1)=some (sL a1 l1 q1):=(BN.o.next HX1w2.o).c 1 rfl
 have k2:w2.cell? (aD w.heap.size 2)=some (sL a2 l2 q2):=(BN.o.next HX1w2.o).c 2 rfl
 have k3:w2.cell? (aD w.heap.size 3)=some (sL a3 l3 q3):=(BN.o.next HX1w2.o).c 3 rfl
 have k4:w2.cell? (aD w.heap.size 4)=some (iV N.uturn):=(BN.o.next HX1w2.o).c 4 rfl
 have k5:w2.cell? (aD (w.heap.size+1) 0)=some (sL a4 l4 q4):=(BR.o.next HX1w2.o).c 0 rfl
 have k6:w2.cell? (aD (w.heap.size+1) 1)=some (sL a5 l5 q5):=(BR.o.next HX1w2.o).c 1 rfl
 have k7:w2.cell? (aD (w.heap.size+1) 2)=some (sL a6 l6 q6):=(BR.o.next HX1w2.o).c 2 rfl
 have k8:w2.cell? (aD (w.heap.size+1) 3)=some (sL a7 l7 q7):=(BR.o.next HX1w2.o).c 3 rfl
 have kf:=(BL.o.next HX1w2.o).c 3 rfl
 go_wp2
 go_region_held3 (λw'=>w'.cell? (aD w.heap.size 0)=some (sL a0 l0 q0)/\w'.cell? (aD w.heap.size 1)=some (sL a1 l1 q1)/\w'.cell? (aD w.heap.size 2)=some (sL a2 l2 q2)/\w'.cell? (aD w.heap.size 3)=some (sL a3 l3 q3)/\w'.cell? (aD w.heap.size 4)=some (iV N.uturn)/\w'.cell? (aD (w.heap.size+1) 0)=some (sL a4 l4 q4)/\w'.cell? (aD (w.heap.size+1) 1)=some (sL a5 l5 q5)/\w'.cell? (aD (w.heap.size+1) 2)=some (sL a6 l6 q6)/\w'.cell? (aD (w.heap.size+1) 3)=some (sL a7 l7 q7)/\w'.cell? (aD (w.heap.size+2) 3)=some (iV r.to)) (first|exact⟨Q1 HXbw3.o k0,Q1 HXbw3.o k1,Q1 HXbw3.o k2,Q1 HXbw3.o k3,Q1 HXbw3.o k4,Q1 HXbw3.o k5,Q1 HXbw3.o k6,Q1 HXbw3.o k7,Q1 HXbw3.o k8,Q1 HXbw3.o kf⟩|exact⟨Q1 HXaw3.o k0,Q1 HXaw3.o k1,Q1 HXaw3.o k2,Q1 HXaw3.o k3,Q1 HXaw3.o k4,Q1 HXaw3.o k5,Q1 HXaw3.o k6,Q1 HXaw3.o k7,Q1 HXaw3.o k8,Q1 HXaw3.o kf⟩|(go_keep;done)) (first|(go_at_call 55;refine(P0 B0 _ _ _ _ _ _ N.ways _ (by exact HNET.o.2.1.next (HXw2.o.trans (Below.refl _ _).drew)) HTO).mono ?_;rintro e waw3 ⟨rfl,hxa⟩;have HXaw3:Z (Nx w2 waw3):=(Below.refl _ _).drew.trans hxa;clear hxa)|(go_at_call 102;refine(Q4j B _ _ _ _ R _ _ (by exact HROAD.o.next (HXw2.o.trans HXaw3.o)) hm).mono ?_;rintro e w3 ⟨⟨ut,rfl,hOut⟩,hxb⟩;have HXbw3:Z (Nx w2 w3):=HXaw3.o.trans hxb;have HOut:Z (J9 w1.heap.size w3 ut (ones (Jl R.edges (wpos N.ways r.to) R.edges.length))):=hOut.base (by have:=HX1w2.o.size;have:=HXaw3.o.size;omega);clear hOut hxb))
 have HXw3:Z (Nx w w3):=HXw2.o.trans HXbw3.o
 have HX1w3:Z (Nx w1 w3):=HX1w2.o.trans HXbw3.o
 have HOF:Z (J9 w1.heap.size w3 (sL fa fl fc) ((Ve (Qt N R.edges r)).map Qb)):=by have:=HOuf.o.next HXbw3.o;rw[HLF.o] at this;exact this
 have HOT:Z (J9 w1.heap.size w3 ut ((Ve (Qx N R.edges r)).map Qb)):=by have:=HOut.o;rw[HLT.o] at this;exact this
 have hfl4:fl<=4000:=by rw[<-HFL.o,Q42];have:=Ku R.edges (wpos N.ways r.frm) R.edges.length;omega
 have HFLS:Z ((Ve (Qt N R.edges r)).length=fl):=by have:=HFL.o;rw[HLF.o,zG] at this;exact this
 obtain⟨ta,tc,hte⟩:=HOT.o.slice
 generalize htl:((Ve (Qx N R.edges r)).map Qb).length=tl at hte
 have HTL:Z ((Ve (Qx N R.edges r)).length=tl):=by rw[zG] at htl;exact htl
 have htl4:tl<=4000:=by rw[<-HTL.o,Uk];have:=Ku R.edges (wpos N.ways r.to) R.edges.length;unfold Qx;omega
 subst hte
 clear k0 k1 k2 k3 k4 k5 k6 k7 k8 kf htl HOuf HOut HLF HLT HFL
 have kv:=(BL.o.next HX1w3.o).c 4 rfl
 have HCH:Z (Xw N R.nodes R.edges r=if r.via then Qy R.edges (Ve ((Qt N R.edges r).filter (V4 R.nodes R.edges r.node))) (Ve (Qx N R.edges r)) else Qy R.edges (Z7 N R.edges r r.ways.length) (Ve (Qx N R.edges r))):=rfl
 cases hvia:r.via
 ·rw[hvia] at kv HCH
  have HCH2:Z (Xw N R.nodes R.edges r=Qy R.edges (Z7 N R.edges r r.ways.length) (Ve (Qx N R.edges r))):=by unfold Z;rw[HCH.o];rfl
  clear HCH hvia
  have HWL:Z (r.ways.length=lw):=Q4n HW.o
  have hlw4:lw<=4:=by rw[<-HWL.o];exact HR.o.len
  go_wp2
  go_loopw [7,11] (λu i wr=>∃k:Nat,k<=lw/\i=iV k/\Z (J9 w1.heap.size wr u ((Z7 N R.edges r k).map Qb))/\Z (Nx w1 wr)/\Z (J9 w1.heap.size wr (sL ta tl tc) ((Ve (Qx N R.edges r)).map Qb))) (λ_ i _=>lw-(intOf i).toNat)
  case atStart=>exact⟨0,nZ,rfl,HOF,HX1w3,HOT⟩
  clear HOF HOT kv
  obtain⟨k,hkm,rfl,HO,HN,HOT⟩:=hrel
  have HXr:Z (Nx w wr):=HX1.o.trans HN.o
  obtain⟨ga,gc,hge⟩:=HO.o.slice
  generalize hgl:((Z7 N R.edges r k).map Qb).length=gl at hge
  subst hge
  have HGG:=A6 HR.o hm k (by rw[HWL.o];exact hkm)
  have HGL:Z ((Z7 N R.edges r k).length<=1000000/\∀l∈Z7 N R.edges r k,U3 R.edges.length l):=by
   refine⟨?_,λl hl=>(HGG.1 l hl).1⟩
   have h1:=HGG.2
   have h2:2 ^ k<=2 ^ 4:=Nat.pow_le_pow_right (by decide) (by omega)
   omega
  clear hgl HGG
  have kl:=(BL.o.next HN.o).c 6 rfl
  have k0:wr.cell? (aD w.heap.size 0)=some (sL a0 l0 q0):=(BN.o.next HN.o).c 0 rfl
  have k1:wr.cell? (aD w.heap.size 1)=some (sL a1 l1 q1):=(BN.o.next HN.o).c 1 rfl
  have k2:wr.cell? (aD w.heap.size 2)=some (sL a2 l2 q2):=(BN.o.next HN.o).c 2 rfl
  have k3:wr.cell? (aD w.heap.size 3)=some (sL a3 l3 q3):=(BN.o.next HN.o).c 3 rfl
  have k4:wr.cell? (aD w.heap.size 4)=some (iV N.uturn):=(BN.o.next HN.o).c 4 rfl
  have k5:wr.cell? (aD (w.heap.size+1) 0)=some (sL a4 l4 q4):=(BR.o.next HN.o).c 0 rfl
  have k6:wr.cell? (aD (w.heap.size+1) 1)=some (sL a5 l5 q5):=(BR.o.next HN.o).c 1 rfl
  have k7:wr.cell? (aD (w.heap.size+1) 2)=some (sL a6 l6 q6):=(BR.o.next HN.o).c 2 rfl
  have k8:wr.cell? (aD (w.heap.size+1) 3)=some (sL a7 l7 q7):=(BR.o.next HN.o).c 3 rfl
  by_cases hlt:k<lw
  ·have hlt':(k:Int)<lw:=by omega
   have HKW:Z (k<r.ways.length):=by rw[HWL.o];exact hlt
   have HES:Z (Z7 N R.edges r (k+1)=Qy R.edges (Z7 N R.edges r k) (Jm N R.edges (wpos N.ways (iat r.ways k)))):=A2 HKW.o
   have hway:=HR.o.ways k HKW.o
   have HWP:Z (wpos N.ways (iat r.ways k)<N.ways.length):=Xu hway
   have HTG:Z (∀l∈Jm N R.edges (wpos N.ways (iat r.ways k)),U3 R.edges.length l):=λl hl=>(Zr hm (HR.o.th _ HWP.o).1 (HR.o.th _ HWP.o).2 l hl).1
   obtain⟨bw,ow,haw,hbw,hcw⟩:=Yu HW.o HXr.o hlt
   subst haw
   have kw:wr.cell? (aD bw (ow+k))=some (iV (iat r.ways k)):=hcw
   have HWAY:Z (Ju N.ways (iat r.ways k)=true):=hway
   clear hcw hway
   generalize iat r.ways k=wid at *
   go_wp2
   go_region_held3 (λw'=>w'.cell? (aD w.heap.size 0)=some (sL a0 l0 q0)/\w'.cell? (aD w.heap.size 1)=some (sL a1 l1 q1)/\w'.cell? (aD w.heap.size 2)=some (sL a2 l2 q2)/\w'.cell? (aD w.heap.size 3)=some (sL a3 l3 q3)/\w'.cell? (aD w.heap.size 4)=some (iV N.uturn)/\w'.cell? (aD (w.heap.size+1) 0)=some (sL a4 l4 q4)/\w'.cell? (aD (w.heap.size+1) 1)=some (sL a5 l5 q5)/\w'.cell? (aD (w.heap.size+1) 2)=some (sL a6 l6 q6)/\w'.cell? (aD (w.heap.size+1) 3)=some (sL a7 l7 q7)/\w'.cell? (aD (w.heap.size+2) 6)=some (sL (some (aD bw ow)) lw qw)/\w'.cell? (aD bw (ow+k))=some (iV wid)) (first|exact⟨Q1 HXc.o k0,Q1 HXc.o k1,Q1 HXc.o k2,Q1 HXc.o k3,Q1 HXc.o k4,Q1 HXc.o k5,Q1 HXc.o k6,Q1 HXc.o k7,Q1 HXc.o k8,Q1 HXc.o kl,Q1 HXc.o kw⟩|exact⟨Q1 HXb.o k0,Q1 HXb.o k1,Q1 HXb.o k2,Q1 HXb.o k3,Q1 HXb.o k4,Q1 HXb.o k5,Q1 HXb.o k6,Q1 HXb.o k7,Q1 HXb.o k8,Q1 HXb.o kl,Q1 HXb.o kw⟩|exact⟨Q1 HXa.o k0,Q1 HXa.o k1,Q1 HXa.o k2,Q1 HXa.o k3,Q1 HXa.o k4,Q1 HXa.o k5,Q1 HXa.o k6,Q1 HXa.o k7,Q1 HXa.o k8,Q1 HXa.o kl,Q1 HXa.o kw⟩|(go_keep;done)) (first|(go_at_call 55;refine(P0 B0 _ _ _ _ _ _ N.ways _ (by exact HNET.o.2.1.next (HXr.o.trans (Below.refl _ _).drew)) HWAY.o).mono ?_;rintro e wa ⟨rfl,hxa⟩;have HXa:Z (Nx wr wa):=(Below.refl _ _).drew.trans hxa;clear hxa)|(go_at_call 104;refine(Gd B0 B _ _ _ _ N _ _ _ _ R _ _ (by exact HNET.o.next (HXr.o.trans HXa.o)) (by exact HROAD.o.next (HXr.o.trans HXa.o)) hm HWP.o).mono ?_;rintro e wb ⟨⟨ub,rfl,hOb⟩,hxb⟩;have HXb:Z (Nx wr wb):=HXa.o.trans hxb;have HOb:Z (J9 wa.heap.size wb ub ((Jm N R.edges (wpos N.ways wid)).map Qb)):=hOb;clear hOb hxb)|(go_at_call 103;refine(Ka B w1.heap.size wa.heap.size _ _ _ _ _ _ R (Z7 N R.edges r k) (Jm N R.edges (wpos N.ways wid)) _ (by exact HROAD.o.next (HXr.o.trans HXb.o)) hm (by exact(HO.o.next HXb.o).held) (by exact HOb.o.held) HGL.o.2 HTG.o HGL.o.1 (by have:=Q0k N R.edges (wpos N.ways wid);omega)).mono ?_;rintro e wc ⟨⟨uc,rfl,hOc⟩,hxc⟩;have HXc:Z (Nx wr wc):=HXb.o.trans hxc;have HOc:Z (J9 w1.heap.size wc uc ((Z7 N R.edges r (k+1)).map Qb)):=(by rw[HES.o];exact hOc.base (by have:=HN.o.size;have:=HXb.o.size;omega));clear hOc hxc))
   all_goals
    clear k0 k1 k2 k3 k4 k5 k6 k7 k8 kl kw
    go_wp2
    go_roundw
    case rel=>exact⟨k+1,by omega,by go_num,HOc,HN.o.trans HXc.o,HOT.o.next HXc.o⟩
    case measure=>simp[intOf];omega
  ·have ek:lw=k:=by omega
   subst ek
   have HF:Z (Qy R.edges (Z7 N R.edges r lw) (Ve (Qx N R.edges r))=Xw N R.nodes R.edges r):=by unfold Z;rw[HCH2.o,HWL.o]
   clear hlt hkm
   go_wp2_with fail
   refine(Ka B w1.heap.size w1.heap.size _ _ _ _ _ _ R (Z7 N R.edges r lw) (Ve (Qx N R.edges r)) _ (by exact HROAD.o.next HXr.o) hm (by exact HO.o.held) (by exact HOT.o.held) HGL.o.2 (λl hl=>Iv l hl) HGL.o.1 (by rw[HTL.o];omega)).mono ?_
   rintro e wc ⟨⟨uc,rfl,hOc⟩,hxc⟩
   rw[HF.o] at hOc
   have HOc:Z (J9 w.heap.size wc uc ((Xw N R.nodes R.edges r).map Qb)):=hOc.base (HXr.o.size)
   have HXc:Z (Nx w wc):=HXr.o.trans hxc
   clear hOc hxc k0 k1 k2 k3 k4 k5 k6 k7 k8 kl
   go_wp2
   go_ret
   exact⟨⟨_,rfl,HOc.o⟩,HXc.o⟩
 ·rw[hvia] at kv HCH
  have HCH2:Z (Xw N R.nodes R.edges r=Qy R.edges (Ve ((Qt N R.edges r).filter (V4 R.nodes R.edges r.node))) (Ve (Qx N R.edges r))):=by unfold Z;rw[HCH.o];rfl
  clear HCH hvia
  have HFM:Z (∀k,k<fl->(Qt N R.edges r).getD k 0<R.edges.length):=λk hk=>by
   have hk':k<(Qt N R.edges r).length:=by have:=HFLS.o;rw[Uk] at this;omega
   have e:(Qt N R.edges r).getD k 0=(Qt N R.edges r)[k]:=by simp[List.getD_eq_getElem?_getD,hk']
   rw[e]
   have:=yN hk'
   unfold Qt Jl at this
   exact List.mem_range.1 (List.mem_filter.1 this).1
  have HFN:Z ((Qt N R.edges r).length=fl):=by have:=HFLS.o;rw[Uk] at this;exact this
  generalize Qt N R.edges r=F at *
  go_wp2
  go_loopw [9,10] (λu i wr=>∃k:Nat,k<=fl/\i=iV k/\Z (Fc w3.heap.size w1.heap.size wr u ((Ve ((F.take k).filter (V4 R.nodes R.edges r.node))).map Qb))/\Z (Nx w3 wr)) (λ_ i _=>fl-(intOf i).toNat)
  case atStart=>exact⟨0,nZ,rfl,Q9w w1.heap.size w3,Q4 _ _⟩
  clear kv
  obtain⟨k,hkm,rfl,HO,HN3⟩:=hrel
  have HN:Z (Nx w1 wr):=HX1w3.o.trans HN3.o
  have HXr:Z (Nx w wr):=HX1.o.trans HN.o
  have HOFr:Z (J9 w1.heap.size wr (sL fa fl fc) ((Ve F).map Qb)):=HOF.o.next HN3.o
  have HOTr:Z (J9 w1.heap.size wr (sL ta tl tc) ((Ve (Qx N R.edges r)).map Qb)):=HOT.o.next HN3.o
  have k0:wr.cell? (aD w.heap.size 0)=some (sL a0 l0 q0):=(BN.o.next HN.o).c 0 rfl
  have k1:wr.cell? (aD w.heap.size 1)=some (sL a1 l1 q1):=(BN.o.next HN.o).c 1 rfl
  have k2:wr.cell? (aD w.heap.size 2)=some (sL a2 l2 q2):=(BN.o.next HN.o).c 2 rfl
  have k3:wr.cell? (aD w.heap.size 3)=some (sL a3 l3 q3):=(BN.o.next HN.o).c 3 rfl
  have k4:wr.cell? (aD w.heap.size 4)=some (iV N.uturn):=(BN.o.next HN.o).c 4 rfl
  have k5:wr.cell? (aD (w.heap.size+1) 0)=some (sL a4 l4 q4):=(BR.o.next HN.o).c 0 rfl
  have k6:wr.cell? (aD (w.heap.size+1) 1)=some (sL a5 l5 q5):=(BR.o.next HN.o).c 1 rfl
  have k7:wr.cell? (aD (w.heap.size+1) 2)=some (sL a6 l6 q6):=(BR.o.next HN.o).c 2 rfl
  have k8:wr.cell? (aD (w.heap.size+1) 3)=some (sL a7 l7 q7):=(BR.o.next HN.o).c 3 rfl
  by_cases hlt:k<fl
  case neg=>
   have ek:fl=k:=by omega
   subst ek
   have HO:=HO.o.own HX1w3.o.size
   have HO:Z (J9 w1.heap.size wr u9 ((Ve ((F.take fl).filter (V4 R.nodes R.edges r.node))).map Qb)):=HO
   obtain⟨ua,uc,hue⟩:=HO.o.slice
   generalize hul:((Ve ((F.take fl).filter (V4 R.nodes R.edges r.node))).map Qb).length=ul at hue
   subst hue
   have HTA:Z (F.take fl=F):=by unfold Z;rw[<-HFN.o,zU]
   have HUL:Z ((Ve ((F.take fl).filter (V4 R.nodes R.edges r.node))).length<=1000000/\∀l∈Ve ((F.take fl).filter (V4 R.nodes R.edges r.node)),U3 R.edges.length l):=by
    rw[HTA.o]
    refine⟨?_,λl hl=>?_⟩
    ·rw[Uk]
     have:=yA (V4 R.nodes R.edges r.node) F
     have:=HFN.o
     omega
    ·obtain⟨e,he,rfl⟩:=List.mem_map.1 hl
     refine⟨by simp,by simp,λx hx=>?_⟩
     have hxe:x=e:=by simpa using hx
     subst hxe
     obtain⟨j,hj,hje⟩:=List.mem_iff_getElem.1 (List.mem_filter.1 he).1
     have:=HFM.o j (by rw[<-HFN.o];exact hj)
     rw[show F.getD j 0=F[j] by simp[List.getD_eq_getElem?_getD,hj],hje] at this
     exact this
   have HF:Z (Qy R.edges (Ve ((F.take fl).filter (V4 R.nodes R.edges r.node))) (Ve (Qx N R.edges r))=Xw N R.nodes R.edges r):=by unfold Z;rw[HCH2.o,HTA.o]
   clear hlt hkm hul
   go_wp2_with fail
   refine(Ka B w1.heap.size w1.heap.size _ _ _ _ _ _ R _ (Ve (Qx N R.edges r)) _ (by exact HROAD.o.next HXr.o) hm (by exact HO.o.held) (by exact HOTr.o.held) HUL.o.2 (λl hl=>Iv l hl) HUL.o.1 (by rw[HTL.o];omega)).mono ?_
   rintro e wc ⟨⟨uc,rfl,hOc⟩,hxc⟩
   rw[HF.o] at hOc
   have HOc:Z (J9 w.heap.size wc uc ((Xw N R.nodes R.edges r).map Qb)):=hOc.base (HXr.o.size)
   have HXc:Z (Nx w wc):=HXr.o.trans hxc
   clear hOc hxc k0 k1 k2 k3 k4 k5 k6 k7 k8
   go_wp2
   go_ret
   exact⟨⟨_,rfl,HOc.o⟩,HXc.o⟩
  have hlt':(k:Int)<fl:=by omega
  have HKF:Z (k<F.length):=by rw[HFN.o];exact hlt
  have HFE:=HFM.o k hlt
  have HYES:Z (V4 R.nodes R.edges r.node (F.getD k 0)=true->(Ve ((F.take (k+1)).filter (V4 R.nodes R.edges r.node))).map Qb=(Ve ((F.take k).filter (V4 R.nodes R.edges r.node))).map Qb++[[((F.getD k 0:Nat):Int)]]):=λh=>Qd8 HKF.o h
  have HNO:Z (V4 R.nodes R.edges r.node (F.getD k 0)=false->(F.take (k+1)).filter (V4 R.nodes R.edges r.node)=(F.take k).filter (V4 R.nodes R.edges r.node)):=λh=>Qfe HKF.o h
  obtain⟨gf,uk,hfa,hck,hOk⟩:=HOFr.o.at (i:=k) (by rw[zG,Uk];exact HKF.o)
  rw[Qeh HKF.o] at hOk
  subst hfa
  have HOK:Z (Qd w1.heap.size wr uk [((F.getD k 0:Nat):Int)]):=hOk
  obtain⟨wa,wcp,hue⟩:=hOk.slice
  simp only[List.length_singleton] at hue
  subst hue
  obtain⟨gw,hwa,hc0⟩:∃gw,wa=some (aD gw 0)/\wr.cell? (aD gw 0)=some (iV ((F.getD k 0:Nat):Int)):=by
   rcases hOk.opened with⟨e,h2⟩|⟨g,cap,e,_,_,hr⟩
   ·simp at h2
   ·simp only[zC] at e
    exact⟨g,e.1,hr.cell (i:=0) (by simp)⟩
  subst hwa
  obtain⟨ez,be,oe,ha5,hbe,hce⟩:=Vh.at' HROAD.o.2.1 (by omega)
  subst ha5
  have z1:=(hce _ HFE).2.1
  have hh:=HR.o.hd _ HFE
  have HAT:Z (V4 R.nodes R.edges r.node (F.getD k 0)=decide (iat R.nodes (eat R.edges (F.getD k 0)).head.toNat=r.node)):=rfl
  generalize F.getD k 0=fe at *
  obtain⟨hn,hhn⟩:∃hn:Nat,(eat R.edges fe).head=(hn:Int):=⟨(eat R.edges fe).head.toNat,by omega⟩
  rw[hhn] at z1 HAT hh
  rw[zX] at HAT
  have HNL:Z (R.nodes.length=l4):=Q4n HROAD.o.1
  have hn4:hn<l4:=by have:=HNL.o;omega
  obtain⟨bn,on,ha4,hbn,hcn⟩:=Yu HROAD.o.1 HXr.o hn4
  subst ha4
  have hm5:(fe:Int)<l5:=by omega
  have hn4':(hn:Int)<l4:=by omega
  have a1:=Q1 HXr.o z1
  have kn:=(BL.o.next HN.o).c 5 rfl
  clear hce z1 hh ez hhn hOk
  generalize iat R.nodes hn=nd at *
  by_cases hat:nd=r.node
  case neg=>
   have g1:(nd==r.node)=false:=by simpa using hat
   have HE2:=HNO.o (by rw[HAT.o];simpa using hat)
   have HE3:Z ((F.take (k+1)).filter (V4 R.nodes R.edges r.node)=(F.take k).filter (V4 R.nodes R.edges r.node)):=HE2
   clear hat HE2
   go_upto_region 8 with fail
   go_quiet (fail)
   have HDQ:Z (Nx wr (wr.drewN nq)):=Va _ _
   generalize wr.drewN nq=wq at *
   clear k0 k1 k2 k3 k4 k5 k6 k7 k8 a1 kn hcn hc0 hck
   go_wp2
   go_roundw
   case rel=>exact⟨k+1,by omega,by go_num,by rw[HE3.o];exact HO.o.next HDQ.o,HN3.o.trans HDQ.o⟩
   case measure=>simp[intOf];omega
  have g1:(nd==r.node)=true:=by simpa using hat
  have HES:Z ((Ve ((F.take (k+1)).filter (V4 R.nodes R.edges r.node))).map Qb=(Ve ((F.take k).filter (V4 R.nodes R.edges r.node))).map Qb++[[(fe:Int)]]):=HYES.o (by rw[HAT.o];simpa using hat)
  have HLN:Z (((Ve ((F.take k).filter (V4 R.nodes R.edges r.node))).map Qb).length<=4000):=by
   unfold Z
   rw[zG,Uk]
   have:=yA (V4 R.nodes R.edges r.node) (F.take k)
   rw[yC] at this
   omega
  clear hat
  go_upto_region 8 with fail
  go_quiet (fail)
  have HDQ:Z (Nx wr (wr.drewN nq)):=Va _ _
  generalize wr.drewN nq=wq at *
  have hckq:=Q1 HDQ.o hck
  have HOKq:Z (Qd w1.heap.size wq (sL (sA gw) 1 wcp) [(fe:Int)]):=HOK.o.next HDQ.o
  have HOq:Z (Fc w3.heap.size w1.heap.size wq u9 ((Ve ((F.take k).filter (V4 R.nodes R.edges r.node))).map Qb)):=HO.o.next HDQ.o
  have HNq:Z (Nx w1 wq):=HN.o.trans HDQ.o
  have HN3q:Z (Nx w3 wq):=HN3.o.trans HDQ.o
  clear k0 k1 k2 k3 k4 k5 k6 k7 k8 a1 kn hcn hc0 hck HOK HO
  generalize (Ve ((F.take k).filter (V4 R.nodes R.edges r.node))).map Qb=ws at *
  obtain⟨cs,hrow,hwords⟩:=HOq.o
  have HROW:Z (wq.ownsRow w3.heap.size 119 1 u9 ws.length cs):=hrow
  have HWD:Z (∀i,i<ws.length->Qd w1.heap.size wq (vat cs i) (wd ws i)):=hwords
  obtain⟨ua,uc,hue⟩:=(HOq.o.own HX1w3.o.size).slice
  subst hue
  generalize hwl:ws.length=wl at *
  have HWL2:Z (ws.length=wl):=hwl
  have hwl4:wl<=4000:=HLN.o
  have HSQ:Z (w3.heap.size<=wq.heap.size):=HN3q.o.size
  clear hrow hwords hwl
  go_wp2_with (at_builtin;refine wpList_append_own_at _ rfl _ _ 65 rfl w3.heap.size 119 ii (.agg #[sN]) 1 24 underlying65 hi hz0 hz1 hz2 rfl (by decide) _ _ _ rfl (zB HROW.o _) (aD wq.heap.size 0) 1 1 [sL (sA gw) 1 wcp] rfl rfl ?e1 ?e2 ?e3 ?e4 ?e5 ?_)
  case e1=>intro j u hj;exact Ql _ _ _ _ rfl j u hj
  case e2=>intro u hu;simp at hu;subst hu;rfl
  case e3=>unfold maxLen;omega
  case e4=>omega
  case e5=>rw[Q3];have:=HSQ.o;omega
  intro v7 w7 hown hgrow _ hat7
  have HO7:Z (Fc w3.heap.size w1.heap.size w7 v7 ((Ve ((F.take (k+1)).filter (V4 R.nodes R.edges r.node))).map Qb)):=by rw[HES.o];exact Fc.snoc (by rw[HWL2.o];exact HROW.o) (λi hi=>HWD.o i (by rw[<-HWL2.o];exact hi)) HOKq.o _ hgrow (by rw[HWL2.o];exact hown)
  have HN7:Z (Nx w3 w7):=Below.grown (HN3q.o.alloc _) hgrow (by rw[Q3];have:=HSQ.o;omega) (λg hg=>(Q5 HROW.o g hg).1)
  clear hown hgrow hat7 hckq
  go_wp2
  go_roundw
  case rel=>exact⟨k+1,by omega,by go_num,HO7,HN7⟩
  case measure=>simp[intOf];omega
structure Ru where
 rel:Int
 only:Bool
 seq:List Int
structure Dp where
 rel:Int
 reason:Int
structure Rs where
 rules:List Ru
 drops:List Dp
def Z0 (xs:List Ru)(i:Nat):Ru:=xs.getD i ⟨0,false,[]⟩
theorem Q7w {xs:List Ru}{i:Nat}(h:i<xs.length):Z0 xs i=xs[i]:=by simp[Z0,List.getD,h]
def rpt (rules:List Ru)(only:Bool)(seq:List Int):Bool:=rules.any λu=>u.only==only&&decide (u.seq=seq)
def reason (rules:List Ru)(only:Bool)(ch:List (List Nat)):Int:=
 if ch.length=0 then 1 else if 1<ch.length then 2 else if rpt rules only (Qb (Jd ch 0)) then 3 else 0
def Jh (S:Rs)(r:Rl)(ch:List (List Nat)):Rs:=
 if reason S.rules r.only ch=0 then ⟨S.rules++[⟨r.id,r.only,Qb (Jd ch 0)⟩],S.drops⟩ else ⟨S.rules,S.drops++[⟨r.id,reason S.rules r.only ch⟩]⟩
def Qq (ch:Rl->List (List Nat))(rels:List Rl):Nat->Rs
 |0=>⟨[],[]⟩
 |k+1=>Jh (Qq ch rels k) (rat rels k) (ch (rat rels k))
theorem Q0u (ch:Rl->List (List Nat))(rels:List Rl)(k:Nat):(Qq ch rels k).rules.length<=k/\(Qq ch rels k).drops.length<=k:=by
 induction k with
 |zero=>simp[Qq]
 |succ k ih=>
  show(Jh _ _ _).rules.length<=_/\(Jh _ _ _).drops.length<=_
  unfold Jh
  split
  ·simp;omega
  ·simp;omega
theorem Q20 {S:Rs}{r:Rl}{c d:List (List Nat)}(h:c.Perm d):Jh S r c=Jh S r d:=by
 have hl:=h.length_eq
 have h0:c.length=1->Jd c 0=Jd d 0:=λe=>by
  match c,d,e,hl,h with
  |[x],[y],_,_,h=>have:=List.singleton_perm_singleton.1 h;rw[this]
 have hr:reason S.rules r.only c=reason S.rules r.only d:=by
  unfold reason
  rw[hl]
  by_cases e0:d.length=0
  ·rw[if_pos e0,if_pos e0]
  ·by_cases e1:1<d.length
   ·rw[if_neg e0,if_neg e0,if_pos e1,if_pos e1]
   ·rw[h0 (by omega)]
 unfold Jh
 rw[hr]
 by_cases e:reason S.rules r.only d=0
 ·have:d.length=1:=by
   unfold reason at e
   by_cases e0:d.length=0
   ·rw[if_pos e0] at e;omega
   ·by_cases e1:1<d.length
    ·rw[if_neg e0,if_pos e1] at e;omega
    ·omega
  rw[if_pos e,if_pos e,h0 (by omega)]
 ·rw[if_neg e,if_neg e]
theorem Ef {c d:Rl->List (List Nat)}{rels:List Rl}(h:∀k,k<rels.length->(c (rat rels k)).Perm (d (rat rels k))):∀k,k<=rels.length->Qq c rels k=Qq d rels k
 |0,_=>rfl
 |k+1,hk=>by
  show Jh _ _ _=Jh _ _ _
  rw[Ef h k (by omega),Q20 (h k (by omega))]
theorem Q4r:(prog.info? 126).map (λi=>(i.zero,i.size,i.bytes))=some (some (.agg #[iV 0,.bool false,sN]),3,40):=by kernel_rfl
theorem Q4u:(prog.info? 128).map (λi=>(i.zero,i.size,i.bytes))=some (some (.agg #[iV 0,iV 0]),2,16):=by kernel_rfl
def Qbk (x:Ru×Value):List Value:=[iV x.1.rel,.bool x.1.only,x.2]
def Z1 (xs:List Ru)(vs:List Value):List Value:=(xs.zip vs).flatMap Qbk
def Zm (C D:Nat)(w:World)(v:Value)(xs:List Ru):Prop:=
 ∃vs:List Value,vs.length=xs.length/\w.ownsRow C 126 3 v xs.length (Z1 xs vs)/\∀i,i<xs.length->Qd D w (vat vs i) (Z0 xs i).seq
def Gj (xs:List Dp):List Value:=xs.flatMap λx=>[iV x.rel,iV x.reason]
def Y1 (C:Nat)(w:World)(v:Value)(xs:List Dp):Prop:=w.ownsRow C 128 2 v xs.length (Gj xs)
theorem V7 {C ty sz n:Nat}{w w':World}{v:Value}{xs:List Value}(h:w.ownsRow C ty sz v n xs)(k:Nx w w'):w'.ownsRow C ty sz v n xs:=by
 obtain⟨h1,h2⟩:=h
 refine⟨h1,?_⟩
 rcases h2 with h2|⟨g,cap,cur,hv,hg,hh,r⟩
 ·exact oL h2
 ·exact oR ⟨g,cap,cur,hv,hg,(k.block g (Array.getElem?_eq_some_iff.1 hh).1).trans hh,r⟩
theorem Q7 {C ty sz n:Nat}{w:World}{v:Value}{xs:List Value}(h:w.ownsRow C ty sz v n xs):∃a c,v=sL a n c:=by
 rcases h.2 with⟨rfl,h2⟩|⟨g,cap,cur,rfl,_⟩
 ·exact⟨none,0,by rw[h2]⟩
 ·exact⟨_,_,rfl⟩
theorem Zm.next {C D:Nat}{w w':World}{v:Value}{xs:List Ru}(h:Zm C D w v xs)(k:Nx w w'):Zm C D w' v xs:=by
 obtain⟨vs,h1,h2,h3⟩:=h
 exact⟨vs,h1,V7 h2 k,λi hi=>(h3 i hi).next k⟩
theorem Y1.next {C:Nat}{w w':World}{v:Value}{xs:List Dp}(h:Y1 C w v xs)(k:Nx w w'):Y1 C w' v xs:=V7 h k
theorem Gw {xs:List Ru}{vs:List Value}(h:vs.length=xs.length)(x:Ru)(u:Value):Z1 (xs++[x]) (vs++[u])=Z1 xs vs++[iV x.rel,.bool x.only,u]:=by
 unfold Z1
 rw[List.zip_append h.symm,List.flatMap_append]
 rfl
theorem Q0t {xs:List Ru}{x:Ru}{i:Nat}(h:i<xs.length):Z0 (xs++[x]) i=Z0 xs i:=by simp[Z0,List.getD,List.getElem?_append_left h]
theorem Q3o {xs:List Ru}{x:Ru}{i:Nat}(h:i=xs.length):Z0 (xs++[x]) i=x:=by subst h;simp[Z0,List.getD]
theorem Zm.snoc {C D:Nat}{w w':World}{v v' u:Value}{xs:List Ru}{x:Ru}{vs:List Value}(h0:vs.length=xs.length)(h1:w.ownsRow C 126 3 v xs.length (Z1 xs vs))(h2:∀i,i<xs.length->Qd D w (vat vs i) (Z0 xs i).seq)
  (hu:Qd D w u x.seq) (ho:Obj) (hg:(w.alloc ho).grownBy w' v.ownBlock) (hn:w'.ownsRow C 126 3 v' (xs.length+1) (Z1 xs vs++[iV x.rel,.bool x.only,u])):Zm C D w' v' (xs++[x]):=by
 have kept:∀{z:Value}{zs:List Int},Qd D w z zs->Qd D w' z zs:=λ{z zs} hz=>zN (zB hz ho) hg (Xr hz h1 (by decide))
 refine⟨vs++[u],by simp[h0],by rw[zA,Gw h0];exact hn,λi hi=>?_⟩
 rw[zA,List.length_singleton] at hi
 by_cases e:i<xs.length
 ·rw[Q0t e]
  have:vat (vs++[u]) i=vat vs i:=by simp[vat,List.getD,List.getElem?_append_left (show i<vs.length by omega)]
  rw[this]
  exact kept (h2 i e)
 ·have e':i=xs.length:=by omega
  rw[Q3o e']
  have:vat (vs++[u]) i=u:=by rw[e',<-h0];simp[vat,List.getD]
  rw[this]
  exact kept hu
theorem Q5c (xs:List Dp)(x:Dp):Gj (xs++[x])=Gj xs++[iV x.rel,iV x.reason]:=by simp[Gj]
theorem Y1.snoc {C:Nat}{w:World}{v:Value}{xs:List Dp}{x:Dp}(h:w.ownsRow C 128 2 v (xs.length+1) (Gj xs++[iV x.rel,iV x.reason])):Y1 C w v (xs++[x]):=by
 unfold Y1
 rw[zA,Q5c]
 exact h
theorem Qgc {α:Type}(l:List α)(f:α->List Value)(hf:∀x,(f x).length=3)(i q:Nat)(hq:q<3)(x:α)(hx:l[i]?=some x):(l.flatMap f)[i*3+q]?=(f x)[q]?:=by
 induction l generalizing i with
 |nil=>simp at hx
 |cons a l ih=>
  cases i with
  |zero=>
   have:a=x:=by simpa using hx
   subst this
   rw[List.flatMap_cons,Nat.zero_mul,Nat.zero_add,zW (by rw[hf];exact hq)]
  |succ i=>
   rw[List.flatMap_cons,yG (by rw[hf];omega),hf,show(i+1)*3+q-3=i*3+q by omega]
   exact ih i (by simpa using hx)
theorem Zm.at {C D:Nat}{w:World}{a:Option Addr}{n c:Nat}{xs:List Ru}(h:Zm C D w (sL a n c) xs){i:Nat}(hi:i<xs.length):∃g u,a=some (aD g 0)/\w.cell? (aD g (i*3))=some (iV (Z0 xs i).rel)/\w.cell? (aD g (i*3+1))=some (.bool (Z0 xs i).only)/\w.cell? (aD g (i*3+2))=some u/\Qd D w u (Z0 xs i).seq:=by
 obtain⟨vs,h0,h1,h2⟩:=h
 obtain⟨h3,h4⟩:=h1
 rcases h4 with⟨_,h4⟩|⟨g,cap,cur,e,hg,hh,hc,hm,hs,ht⟩
 ·omega
 ·simp only[zC] at e
  have hz:(xs.zip vs)[i]?=some (Z0 xs i,vat vs i):=by
   rw[List.getElem?_zip_eq_some]
   exact⟨by rw[Q7w hi];exact zJ hi,by simp[vat,List.getD,List.getElem?_eq_getElem (show i<vs.length by omega)]⟩
  have key:∀q,q<3->w.cell? (aD g (i*3+q))=(Qbk (Z0 xs i,vat vs i))[q]?:=λq hq=>by
   have e1:(cur.toList.take (xs.length*3))[i*3+q]?=(Z1 xs vs)[i*3+q]?:=by rw[ht]
   rw[zT (by omega),zQ] at e1
   have e2:=Qgc (xs.zip vs) Qbk (λ_=>rfl) i q hq _ hz
   unfold Z1 at e1
   rw[e2] at e1
   have hlt:i*3+q<cur.size:=by omega
   simp only[World.cell?,hh,e1]
   rfl
  exact⟨g,vat vs i,e.1,key 0 (by omega),key 1 (by omega),key 2 (by omega),h2 i hi⟩
end Go.Proofs.YtahpodmokbdjeaaGreatDoor
